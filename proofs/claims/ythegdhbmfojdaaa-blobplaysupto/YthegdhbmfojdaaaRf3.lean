/- The reference's disk as it lies in memory; its Name, Find, refused. -/
import Derived.Test.YthegdhbmfojdaaaFn12
import Derived.Deep.DeepCutAuto
import Derived.Shelf.SlSortCmp.QuietGrown
import Derived.BigQuiet
namespace Go.Proofs.Ythegdhbmfojdaaa
open Go.RowKit Go.Maps Go.Sort
set_option linter.unusedVariables false

/-- A file of the reference, as it lies in memory. -/
structure RE where
  nm : Str
  v : Value
  bs : Str
  sy : Nat
def RE.cs (e : RE) : List Value := [.string ⟨e.nm.toArray⟩, e.v, .int .i64 (e.sy : Int)]
def RE.fl (e : RE) : Fl := ⟨e.nm, e.bs, e.sy⟩
def rcs (Z : List RE) : List Value := Z.flatMap RE.cs
theorem rcs_len (Z : List RE) : (rcs Z).length = Z.length * 3 := by
  unfold rcs
  induction Z with
  | nil => rfl
  | cons e Z ih => rw [List.flatMap_cons, List.length_append, ih]; simp [RE.cs]; omega
theorem rcs_get (Z : List RE) (i : Nat) (hi : i < Z.length) (c : Nat) (hc : c < 3) : (rcs Z)[i * 3 + c]? = (Z[i].cs)[c]? := by
  induction Z generalizing i with
  | nil => simp at hi
  | cons e Z ih =>
    have hl : e.cs.length = 3 := rfl
    cases i with
    | zero =>
      show (e.cs ++ rcs Z)[0 * 3 + c]? = _
      rw [List.getElem?_append_left (by rw [hl]; omega)]
      simp
    | succ i =>
      show (e.cs ++ rcs Z)[(i + 1) * 3 + c]? = _
      rw [List.getElem?_append_right (by rw [hl]; omega), hl, show (i + 1) * 3 + c - 3 = i * 3 + c by omega, ih i (by simpa using hi)]
      rfl
/-- The reference's disk, as it is said. -/
structure RSt where
  fs : List Fl
  off : Bool
  n : Nat
  at_ : Int
  part : Int
structure RZ (w : World) (r : Nat) (F : Nat → Prop) (N : Nat) (s : RSt) (Lv : Value) (Z : List RE) : Prop where
  b : BxA w r 38 #[Lv, .bool s.off, .int .i64 (s.n : Int), .int .i64 s.at_, .int .i64 s.part]
  f : F r
  lo : w.ownsRow 0 79 3 Lv Z.length (rcs Z)
  fl : ∀ b, Lv.ownBlock = some b → F b
  e : ∀ x ∈ Z, Owns w 0 x.v x.bs ∧ (∀ b, x.v.ownBlock = some b → F b) ∧ x.sy ≤ x.bs.length
  ap : Z.Pairwise fun a b => ∀ c, a.v.ownBlock = some c → b.v.ownBlock ≠ some c
  fs : Z.map RE.fl = s.fs
  nb : ∀ x ∈ Z, x.bs.length ≤ N
  few : Z.length ≤ 1000
  nn : s.n ≤ 1000000
  lt : ∀ i, F i → i < w.heap.size
structure Rd (w : World) (r : Nat) (F : Nat → Prop) (N : Nat) (s : RSt) : Prop where
  ex : ∃ Lv Z, RZ w r F N s Lv Z
theorem rowk_block {w w' : World} {base e k n : Nat} {v : Value} {xs : List Value} (h : w.ownsRow base e k v n xs) (hb : ∀ r, v.ownBlock = some r → w'.heap[r]? = w.heap[r]?) : w'.ownsRow base e k v n xs := by
  refine ⟨h.1, ?_⟩
  rcases h.2 with h2 | ⟨g, cap, cur, h1, h2, h3, h4⟩
  · exact .inl h2
  · refine .inr ⟨g, cap, cur, h1, h2, ?_, h4⟩
    rw [hb g (by rw [h1]; rfl)]
    exact h3
theorem RZ.frame {w w' : World} {r N : Nat} {F : Nat → Prop} {s : RSt} {Lv : Value} {Z : List RE} (h : RZ w r F N s Lv Z) (hs : w.heap.size ≤ w'.heap.size) (hb : ∀ i, F i → w'.heap[i]? = w.heap[i]?) : RZ w' r F N s Lv Z :=
  ⟨by have := h.b; unfold BxA at this ⊢; rw [hb _ h.f]; exact this, h.f, rowk_block h.lo fun b q => hb b (h.fl b q), h.fl, fun x hx => ⟨owns_block (h.e x hx).1 fun b q => hb b ((h.e x hx).2.1 b q), (h.e x hx).2⟩, h.ap, h.fs, h.nb, h.few, h.nn, fun i hi => Nat.lt_of_lt_of_le (h.lt i hi) hs⟩
theorem Rd.below {w w' : World} {r N : Nat} {F : Nat → Prop} {s : RSt} (h : Rd w r F N s) (hb : Below w.heap.size w w') : Rd w' r F N s := by
  obtain ⟨Lv, Z, h⟩ := h
  exact ⟨Lv, Z, h.frame hb.size fun i hi => hb.block i (h.lt i hi)⟩
theorem Rd.other {w w' : World} {r N : Nat} {F G : Nat → Prop} {s : RSt} (h : Rd w r F N s) (hf : Fr G w w') (ha : ∀ i, F i → ¬ G i) : Rd w' r F N s := by
  obtain ⟨Lv, Z, h⟩ := h
  exact ⟨Lv, Z, h.frame hf.size fun i hi => hf.block i (h.lt i hi) (ha i hi)⟩
theorem RZ.cells {w : World} {r N : Nat} {F : Nat → Prop} {s : RSt} {Lv : Value} {Z : List RE} (h : RZ w r F N s Lv Z) : ∃ a c, Lv = .slice a Z.length c ∧ Z.length ≤ c ∧ c ≤ maxLen ∧ (0 < Z.length → ∃ g, a = some ⟨g, 0, none⟩ ∧ ∀ i (hi : i < Z.length), w.cell? ⟨g, i * 3, none⟩ = some (.string ⟨Z[i].nm.toArray⟩) ∧ w.cell? ⟨g, i * 3 + 1, none⟩ = some Z[i].v ∧ w.cell? ⟨g, i * 3 + 2, none⟩ = some (.int .i64 (Z[i].sy : Int)) ∧ ∀ c, w.frozen? ⟨g, i * 3 + c, none⟩ = false) := by
  rcases h.lo.2 with ⟨hv, hn⟩ | ⟨g, cap, cur, hv, h2, h3, h4, h5, h6, h7⟩
  · exact ⟨none, 0, by rw [hn]; exact hv, by omega, Nat.zero_le _, fun h => by omega⟩
  · refine ⟨some ⟨g, 0, none⟩, cap, hv, h4, h5, fun _ => ⟨g, rfl, fun i hi => ?_⟩⟩
    have hlo := h.lo
    rw [hv] at hlo
    have key : ∀ c, c < 3 → w.cell? ⟨g, i * 3 + c, none⟩ = (Z[i].cs)[c]? := fun c hc => by
      rw [← rcs_get Z i hi c hc, World.ownsRow.cellAt hlo (i * 3 + c) (by omega)]
    refine ⟨?_, ?_, ?_, fun c => World.ownsRow.frozenAt hlo _⟩
    · exact key 0 (by omega)
    · exact key 1 (by omega)
    · exact key 2 (by omega)
theorem Reads.cutR {w : World} {ao : Option Addr} {c : Nat} {l : Str} (h : Reads w (.slice ao l.length c) l) (k : Nat) (hk : k ≤ l.length) : Reads w (.slice ao k c) (l.take k) := by
  obtain ⟨ao', c', e, h1, h2, h3, h4⟩ := h
  simp only [Value.slice.injEq, true_and] at e
  obtain ⟨rfl, rfl⟩ := e
  refine ⟨ao, c, by rw [List.length_take, Nat.min_eq_left hk], by rw [List.length_take]; omega, h2, fun q => ⟨by rw [List.length_take]; have := (h3 q).1; omega, (h3 q).2⟩, fun ad had j u hj => h4 ad had j u ?_⟩
  have : bv (l.take k) = (bv l).take k := by simp [bv, List.map_take]
  rw [this, List.getElem?_take] at hj
  split at hj
  · exact hj
  · cases hj
set_option maxHeartbeats 800000 in
theorem refname_any (w : World) (t : Str) (ht : t.length ≤ maxLen) : Calls Try.prog 71 #[.string ⟨t.toArray⟩] w fun e w' => e = .returned (.bool (isNm t)) ∧ w' = w := by
  unfold maxLen at ht
  have hsz := str_size t
  by_cases h1 : t.length < 1
  · have h1z : (t.length : Int) < 1 := by omega
    have HE : Hid (isNm t = false) := by apply hide; unfold isNm; simp [h1]
    go_enter Try.func71, Try.ntmps71
    go_wp2_with fail
    go_ret
    exact ⟨by rw [HE.out]; rfl, rfl⟩
  have h1z : ¬ (t.length : Int) < 1 := by omega
  by_cases h2 : 64 < t.length
  · have h2z : (64 : Int) < (t.length : Int) := by omega
    have HE : Hid (isNm t = false) := by apply hide; unfold isNm; simp [h2]
    go_enter Try.func71, Try.ntmps71
    go_wp2_with fail
    go_ret
    exact ⟨by rw [HE.out]; rfl, rfl⟩
  have h2z : ¬ (64 : Int) < (t.length : Int) := by omega
  have HNO : Hid (∀ i, i < t.length → nmB (t.getD i 0) = false → isNm t = false) := fun i hi h => by
    unfold isNm
    have : t.all nmB = false := by
      rw [List.all_eq_false]
      refine ⟨t[i], List.getElem_mem hi, ?_⟩
      rw [show t[i] = t.getD i 0 by simp [hi], h]
      simp
    rw [this, Bool.and_false]
  have HYES : Hid ((∀ i, i < t.length → nmB (t.getD i 0) = true) → isNm t = true) := fun h => by
    unfold isNm
    have : t.all nmB = true := by
      rw [List.all_eq_true]
      intro c hc
      obtain ⟨i, hi, rfl⟩ := List.getElem_of_mem hc
      have := h i hi
      rwa [show t.getD i 0 = t[i] by simp [hi]] at this
    rw [this]
    simp [h1, h2]
  go_enter Try.func71, Try.ntmps71
  go_wp2_with fail
  go_loop [3] (fun i => ∃ k : Nat, k ≤ t.length ∧ i = .int .i64 k ∧ Hid (∀ i, i < k → nmB (t.getD i 0) = true)) (fun i => t.length - (intOf i).toNat)
  case atStart => exact ⟨0, by omega, rfl, fun i hi => by omega⟩
  case round =>
    obtain ⟨k, hk, rfl, HA⟩ := hrel
    by_cases hlt : k < t.length
    · have hltz : (k : Int) < (t.length : Int) := by omega
      have hks : k < (⟨t.toArray⟩ : ByteArray).size := by rw [hsz]; exact hlt
      have hz : ((⟨t.toArray⟩ : ByteArray)[k]'hks).toNat = (t.getD k 0).toNat := by
        have : ((⟨t.toArray⟩ : ByteArray)[k]'hks) = t[k] := rfl
        rw [this]
        simp [hlt]
      cases hb : nmB (t.getD k 0) with
      | false =>
        have HF : Hid (isNm t = false) := HNO.out k hlt hb
        unfold nmB at hb
        rw [Bool.not_eq_false', Bool.or_eq_true, decide_eq_true_eq, decide_eq_true_eq] at hb
        by_cases hq : (t.getD k 0).toNat < 33
        · have d1 : (((⟨t.toArray⟩ : ByteArray)[k]'hks).toNat : Int) < 33 := by rw [hz]; omega
          clear hb hq hz
          go_wp2_with fail
          go_ret
          exact ⟨by rw [HF.out]; rfl, rfl⟩
        · have d1 : ¬ (((⟨t.toArray⟩ : ByteArray)[k]'hks).toNat : Int) < 33 := by rw [hz]; omega
          have d2 : (126 : Int) < (((⟨t.toArray⟩ : ByteArray)[k]'hks).toNat : Int) := by rw [hz]; omega
          clear hb hq hz
          go_wp2_with fail
          go_ret
          exact ⟨by rw [HF.out]; rfl, rfl⟩
      | true =>
        have HT : Hid (nmB (t.getD k 0) = true) := hb
        unfold nmB at hb
        rw [Bool.not_eq_true', Bool.or_eq_false_iff, decide_eq_false_iff_not, decide_eq_false_iff_not] at hb
        have d1 : ¬ (((⟨t.toArray⟩ : ByteArray)[k]'hks).toNat : Int) < 33 := by rw [hz]; have := hb.1; omega
        have d2 : ¬ (126 : Int) < (((⟨t.toArray⟩ : ByteArray)[k]'hks).toNat : Int) := by rw [hz]; have := hb.2; omega
        clear hb hz
        go_wp2_with fail
        go_round
        case rel =>
          refine ⟨k + 1, by omega, by go_num, fun i hi => ?_⟩
          by_cases hik : i = k
          · rw [hik]; exact HT.out
          · exact HA.out i (by omega)
        case measure => simp [intOf]; omega
    · have hltz : ¬ (k : Int) < (t.length : Int) := by omega
      go_wp2_with fail
      go_ret
      exact ⟨by rw [HYES.out fun i hi => HA.out i (by omega)]; rfl, rfl⟩
/-- Where a file is. -/
def fI (fs : List Fl) (t : Str) : Int := match fs.findIdx? (fun f => f.nm == t) with
  | some i => (i : Int)
  | none => -1
theorem fI_some {fs : List Fl} {t : Str} {i : Nat} (hi : i < fs.length) (h : fs[i].nm = t) (hn : ∀ j (hj : j < fs.length), j < i → fs[j].nm ≠ t) : fI fs t = (i : Int) := by
  unfold fI
  have : fs.findIdx? (fun f => f.nm == t) = some i := by
    rw [List.findIdx?_eq_some_iff_getElem]
    refine ⟨hi, by simpa using h, fun j hj => ?_⟩
    have := hn j (by omega) hj
    simpa using this
  rw [this]
theorem fI_none {fs : List Fl} {t : Str} (h : hasF fs t = false) : fI fs t = -1 := by
  unfold fI
  have : fs.findIdx? (fun f => f.nm == t) = none := by
    rw [List.findIdx?_eq_none_iff]
    intro f hf
    unfold hasF at h
    rw [List.any_eq_false] at h
    simpa using h f hf
  rw [this]
set_option maxRecDepth 100000 in
set_option maxHeartbeats 1600000 in
theorem reffind_any (w : World) (r N : Nat) (F : Nat → Prop) (s : RSt) (t : Str) (h : Rd w r F N s) :
    Calls Try.prog 62 #[.pointer (some ⟨r, 0, none⟩), .string ⟨t.toArray⟩] w fun e w' => e = .returned (.int .i64 (fI s.fs t)) ∧ w' = w := by
  obtain ⟨Lv, Z, hz⟩ := h
  obtain ⟨a, c, rfl, hc1, hc2, hcs⟩ := hz.cells
  have c0 : w.cell? ⟨r, 0, none⟩ = some (.slice a Z.length c) := BxA.cell hz.b 0 _ rfl
  have HC : Hid (0 < Z.length → ∃ g, a = some ⟨g, 0, none⟩ ∧ ∀ i (hi : i < Z.length), w.cell? ⟨g, i * 3, none⟩ = some (.string ⟨Z[i].nm.toArray⟩)) := fun hp => by
    obtain ⟨g, e, hx⟩ := hcs hp
    exact ⟨g, e, fun i hi => (hx i hi).1⟩
  have HFS : Hid (Z.map RE.fl = s.fs) := hz.fs
  have hfew := hz.few
  obtain ⟨n, hn⟩ : ∃ n, n = Z.length := ⟨_, rfl⟩
  have HN : Hid (n = Z.length) := hn
  rw [← hn] at c0 hc1 hfew
  unfold maxLen at hc2
  clear hcs hz hn
  go_enter Try.func62, Try.ntmps62
  go_wp2_with fail
  go_loop [5] (fun i => ∃ k : Nat, k ≤ n ∧ i = .int .i64 k ∧ Hid (∀ i (hi : i < Z.length), i < k → Z[i].nm ≠ t)) (fun i => n - (intOf i).toNat)
  case atStart => exact ⟨0, by omega, rfl, fun i _ hi => by omega⟩
  case round =>
    obtain ⟨k, hk, rfl, HA⟩ := hrel
    by_cases hlt : k < n
    · have hltz : (k : Int) < (n : Int) := by omega
      have hkl : k < Z.length := by have := HN.out; omega
      obtain ⟨g, rfl, hx⟩ := HC.out (by omega)
      have x0 := hx k hkl
      obtain ⟨q, hq⟩ : ∃ q, q = Z[k].nm := ⟨_, rfl⟩
      rw [← hq] at x0
      have HQ : Hid (q = (Z[k]'hkl).nm) := hq
      have HW1 : Hid (wrap64 ((k : Int) + 1) = (k : Int) + 1) := by apply hide; rw [← IntWalk.i64_left, IntKind.wrap_i64]; omega
      clear hx hq
      by_cases he : q = t
      · have he2 : (q == t) = true := by simpa using he
        have HE : Hid (fI s.fs t = (k : Int)) := by
          apply hide
          rw [← HFS.out]
          refine fI_some (by rw [List.length_map]; exact hkl) ?_ fun j hj hjk => ?_
          · rw [List.getElem_map]
            show (Z[k]'hkl).nm = t
            rw [← HQ.out]
            exact he
          · rw [List.getElem_map]
            exact HA.out j (by rw [List.length_map] at hj; exact hj) hjk
        subst he
        go_wp2_with fail
        go_ret
        exact ⟨by rw [HE.out]; rfl, rfl⟩
      · have he2 : (q == t) = false := by simpa using he
        have HNE : Hid (¬ q = t) := he
        clear he
        go_wp2_with fail
        go_round
        case rel =>
          refine ⟨k + 1, by omega, by first | (rw [HW1.out]; rfl) | go_num, fun i hi hik => ?_⟩
          by_cases e : i = k
          · subst e
            rw [← HQ.out]
            exact HNE.out
          · exact HA.out i hi (by omega)
        case measure => simp [intOf]; omega
    · have hltz : ¬ (k : Int) < (n : Int) := by omega
      have HE : Hid (fI s.fs t = -1) := by
        apply hide
        refine fI_none ?_
        rw [← HFS.out]
        unfold hasF
        rw [List.any_map, List.any_eq_false]
        intro x hx
        obtain ⟨i, hi, e⟩ := List.getElem_of_mem hx
        have := HA.out i hi (by have := HN.out; omega)
        rw [e] at this
        simpa [RE.fl] using this
      go_wp2_with fail
      go_ret
      exact ⟨by rw [HE.out]; rfl, rfl⟩
end Go.Proofs.Ythegdhbmfojdaaa

namespace Go.Proofs.Ythegdhbmfojdaaa
open Go.RowKit Go.Maps Go.Sort
set_option linter.unusedVariables false

def rrc (s : RSt) (a b : Str) : Nat := if s.off then 122 else if isNm a = false then 1 else if isNm b = false then 1 else if hasF s.fs a then 0 else 120
theorem fI_has {fs : List Fl} {t : Str} (h : hasF fs t = true) : ∃ i : Nat, ∃ hi : i < fs.length, fI fs t = (i : Int) ∧ fs[i].nm = t := by
  unfold fI
  cases hf : fs.findIdx? (fun f => f.nm == t) with
  | none =>
    rw [List.findIdx?_eq_none_iff] at hf
    unfold hasF at h
    rw [List.any_eq_true] at h
    obtain ⟨f, h1, h2⟩ := h
    rw [hf f h1] at h2
    cases h2
  | some i =>
    rw [List.findIdx?_eq_some_iff_getElem] at hf
    obtain ⟨hi, h1, _⟩ := hf
    exact ⟨i, hi, rfl, by simpa using h1⟩
set_option maxHeartbeats 800000 in
theorem refrefused_any (w : World) (r N : Nat) (F : Nat → Prop) (s : RSt) (a b : Str) (h : Rd w r F N s) (ha : a.length ≤ maxLen) (hb : b.length ≤ maxLen) :
    Calls Try.prog 86 #[.pointer (some ⟨r, 0, none⟩), .string ⟨a.toArray⟩, .string ⟨b.toArray⟩] w fun e w' => e = .returned (.int .i64 (rrc s a b : Nat)) ∧ w' = w := by
  have kA := refname_any w a ha
  have kB := refname_any w b hb
  have kF := reffind_any w r N F s a h
  obtain ⟨Lv, Z, hz⟩ := h
  have c1 : w.cell? ⟨r, 1, none⟩ = some (.bool s.off) := BxA.cell hz.b 1 _ rfl
  unfold rrc
  clear hz ha hb
  cases ho : s.off with
  | true =>
    rw [ho] at c1
    go_enter Try.func86, Try.ntmps86
    go_wp2_with fail
    go_ret
    exact ⟨rfl, rfl⟩
  | false =>
    rw [ho] at c1
    cases hA : isNm a with
    | false =>
      rw [hA] at kA
      go_enter Try.func86, Try.ntmps86
      go_wp2_with fail
      refine kA.mono ?_
      rintro e w1 ⟨rfl, rfl⟩
      go_wp2_with fail
      refine kB.mono ?_
      rintro e w1 ⟨rfl, rfl⟩
      go_wp2_with fail
      go_ret
      exact ⟨rfl, rfl⟩
    | true =>
      rw [hA] at kA
      cases hB : isNm b with
      | false =>
        rw [hB] at kB
        go_enter Try.func86, Try.ntmps86
        go_wp2_with fail
        refine kA.mono ?_
        rintro e w1 ⟨rfl, rfl⟩
        go_wp2_with fail
        refine kB.mono ?_
        rintro e w1 ⟨rfl, rfl⟩
        go_wp2_with fail
        go_ret
        exact ⟨rfl, rfl⟩
      | true =>
        rw [hB] at kB
        cases hH : hasF s.fs a with
        | false =>
          rw [fI_none hH] at kF
          go_enter Try.func86, Try.ntmps86
          go_wp2_with fail
          refine kA.mono ?_
          rintro e w1 ⟨rfl, rfl⟩
          go_wp2_with fail
          refine kB.mono ?_
          rintro e w1 ⟨rfl, rfl⟩
          go_wp2_with fail
          refine kF.mono ?_
          rintro e w1 ⟨rfl, rfl⟩
          go_wp2_with fail
          go_ret
          exact ⟨rfl, rfl⟩
        | true =>
          obtain ⟨i, hi, e1, -⟩ := fI_has hH
          rw [e1] at kF
          have hiz : ¬ (i : Int) < 0 := by omega
          clear e1 hi
          go_enter Try.func86, Try.ntmps86
          go_wp2_with fail
          refine kA.mono ?_
          rintro e w1 ⟨rfl, rfl⟩
          go_wp2_with fail
          refine kB.mono ?_
          rintro e w1 ⟨rfl, rfl⟩
          go_wp2_with fail
          refine kF.mono ?_
          rintro e w1 ⟨rfl, rfl⟩
          go_wp2_with fail
          go_ret
          exact ⟨rfl, rfl⟩
end Go.Proofs.Ythegdhbmfojdaaa

namespace Go.Proofs.Ythegdhbmfojdaaa
open Go.RowKit Go.Maps Go.Sort
set_option linter.unusedVariables false

theorem rcs_set (Z : List RE) (i : Nat) (hi : i < Z.length) (v : Value) (bs : Str) (k : Nat) : rcs (Z.set i ⟨Z[i].nm, v, bs, k⟩) = ((rcs Z).set (i * 3 + 1) v).set (i * 3 + 2) (.int .i64 (k : Int)) := by
  induction Z generalizing i with
  | nil => simp at hi
  | cons e Z ih =>
    cases i with
    | zero => rfl
    | succ i =>
      have hi' : i < Z.length := by simpa using hi
      have h := ih i hi'
      show e.cs ++ rcs (Z.set i ⟨(Z[i]'hi').nm, v, bs, k⟩) = ((e.cs ++ rcs Z).set ((i + 1) * 3 + 1) v).set ((i + 1) * 3 + 2) (.int .i64 (k : Int))
      have hl : e.cs.length = 3 := rfl
      rw [h, List.set_append_right _ _ (by rw [hl]; omega), List.set_append_right _ _ (by rw [hl]; omega), hl, show (i + 1) * 3 + 1 - 3 = i * 3 + 1 by omega, show (i + 1) * 3 + 2 - 3 = i * 3 + 2 by omega]
theorem pair_set {Z : List RE} {R : RE → RE → Prop} (h : Z.Pairwise R) (i : Nat) (hi : i < Z.length) (e : RE) (h1 : ∀ x ∈ Z, R x e) (h2 : ∀ x ∈ Z, R e x) : (Z.set i e).Pairwise R := by
  rw [List.pairwise_iff_getElem] at h ⊢
  intro a b ha hb hab
  rw [List.length_set] at ha hb
  rw [List.getElem_set, List.getElem_set]
  split
  · split
    · omega
    · exact h2 _ (List.getElem_mem _)
  · split
    · exact h1 _ (List.getElem_mem _)
    · exact h a b ha hb hab
theorem RZ.rg {w : World} {r N g n cap : Nat} {F : Nat → Prop} {s : RSt} {Z : List RE} (h : RZ w r F N s (.slice (some ⟨g, 0, none⟩) n cap) Z) : r ≠ g := fun e => by
  have q1 := h.b
  rcases h.lo.2 with ⟨q, _⟩ | ⟨g', c', cur, q, q2, q3, _⟩
  · cases q
  · injection q with q _ _
    injection q with q
    injection q with q
    subst q
    subst e
    unfold BxA at q1
    rw [q3] at q1
    simp at q1
/-- A file's bytes lie in a new row. -/
theorem RZ.file {w w1 : World} {r N g cap : Nat} {F : Nat → Prop} {s : RSt} {Z : List RE} (h : RZ w r F N s (.slice (some ⟨g, 0, none⟩) Z.length cap) Z) (i : Nat) (hi : i < Z.length) (v1 : Value) (bs : Str) (k : Nat) (hg : w.grownBy w1 none) (ho : Owns w1 0 v1 bs) (hv : ∀ b, v1.ownBlock = some b → w.heap.size ≤ b) (hk : k ≤ bs.length) (hn : bs.length ≤ N) :
    RZ ((w1.setCell ⟨g, i * 3 + 1, none⟩ v1).setCell ⟨g, i * 3 + 2, none⟩ (.int .i64 (k : Int))) r (fun j => F j ∨ v1.ownBlock = some j) N { s with fs := s.fs.set i ⟨Z[i].nm, bs, k⟩ } (.slice (some ⟨g, 0, none⟩) Z.length cap) (Z.set i ⟨Z[i].nm, v1, bs, k⟩) := by
  have hF := h.fl g rfl
  have hgs := h.lt g hF
  have b1 : ∀ j, F j → w1.heap[j]? = w.heap[j]? := fun j hj => hg.block j (h.lt j hj) (by simp)
  have h1 := h.frame hg.size b1
  have hne : ∀ j, j ≠ g → ((w1.setCell ⟨g, i * 3 + 1, none⟩ v1).setCell ⟨g, i * 3 + 2, none⟩ (.int .i64 (k : Int))).heap[j]? = w1.heap[j]? := fun j hj => by
    rw [Below.heap_setCell _ _ _ _ hj, Below.heap_setCell _ _ _ _ hj]
  have hr : r ≠ g := h1.rg
  have hby : ∀ (x : Value) (l : Str), Owns w1 0 x l → ∀ b, x.ownBlock = some b → b ≠ g := fun x l hx b hb e => by
    subst e
    rcases h1.lo.2 with ⟨q, _⟩ | ⟨g', c', cur, q, q2, q3, _⟩
    · cases q
    · injection q with q _ _
      injection q with q
      injection q with q
      subst q
      rcases hx.2 with ⟨q', _⟩ | ⟨g2, c2, cur2, q', _, q4, _⟩
      · rw [q'] at hb; cases hb
      · rw [q'] at hb
        injection hb with hb
        have hb' : g2 = b := hb
        rw [hb', q3] at q4
        simp at q4
  refine ⟨?_, .inl h.f, ?_, fun b hb => .inl (h.fl b hb), fun x hx => ?_, ?_, ?_, fun x hx => ?_, by rw [List.length_set]; exact h.few, h.nn, fun j hj => ?_⟩
  · have := h1.b
    unfold BxA at this ⊢
    rw [hne r hr]
    exact this
  · rw [List.length_set, rcs_set Z i hi]
    exact (World.ownsRow.stored (World.ownsRow.stored h1.lo (i * 3 + 1) v1).1 (i * 3 + 2) (.int .i64 (k : Int))).1
  · rcases List.mem_or_eq_of_mem_set hx with hx | rfl
    · obtain ⟨q1, q2, q3⟩ := h1.e x hx
      exact ⟨owns_block q1 fun b hb => hne b (hby x.v x.bs q1 b hb), fun b hb => .inl (q2 b hb), q3⟩
    · exact ⟨owns_block ho fun b hb => hne b (hby v1 bs ho b hb), fun b hb => .inr hb, hk⟩
  · refine pair_set h.ap i hi _ (fun x hx c hc q => ?_) (fun x hx c hc q => ?_)
    · have := hv c q
      have := h.lt c ((h.e x hx).2.1 c hc)
      omega
    · have := hv c hc
      have := h.lt c ((h.e x hx).2.1 c q)
      omega
  · rw [List.map_set, h.fs]
    rfl
  · rcases List.mem_or_eq_of_mem_set hx with hx | rfl
    · exact h.nb x hx
    · exact hn
  · have hs : ((w1.setCell ⟨g, i * 3 + 1, none⟩ v1).setCell ⟨g, i * 3 + 2, none⟩ (.int .i64 (k : Int))).heap.size = w1.heap.size := by simp
    rw [hs]
    rcases hj with hj | hj
    · exact Nat.lt_of_lt_of_le (h.lt j hj) hg.size
    · exact (own_lt ho j hj).2
theorem RZ.boxn {w : World} {r N : Nat} {F : Nat → Prop} {s s' : RSt} {Lv Lv' : Value} {Z : List RE} (h : RZ w r F N s Lv Z) (c : Nat) (u : Value) (hb : BxA (w.setCell ⟨r, c, none⟩ u) r 38 #[Lv, .bool s'.off, .int .i64 (s'.n : Int), .int .i64 s'.at_, .int .i64 s'.part]) (hfs : s'.fs = s.fs) (hn : s'.n ≤ 1000000) : RZ (w.setCell ⟨r, c, none⟩ u) r F N s' Lv Z := by
  have hne : ∀ j, j ≠ r → (w.setCell ⟨r, c, none⟩ u).heap[j]? = w.heap[j]? := fun j hj => Below.heap_setCell _ _ _ _ hj
  have hlr : ∀ b, Lv.ownBlock = some b → b ≠ r := fun b hk q => by
    subst q
    have q1 := h.b
    rcases h.lo.2 with ⟨q, _⟩ | ⟨g', c', cur, q, q2, q3, _⟩
    · rw [q] at hk; cases hk
    · rw [q] at hk
      injection hk with hk
      have hb' : g' = b := hk
      rw [hb'] at q3
      unfold BxA at q1
      rw [q3] at q1
      simp at q1
  have her : ∀ x ∈ Z, ∀ b, x.v.ownBlock = some b → b ≠ r := fun x hx b hk q => by
    subst q
    have q1 := h.b
    rcases (h.e x hx).1.2 with ⟨q', _⟩ | ⟨g2, c2, cur2, q', _, q4, _⟩
    · rw [q'] at hk; cases hk
    · rw [q'] at hk
      injection hk with hk
      have hb' : g2 = b := hk
      rw [hb'] at q4
      unfold BxA at q1
      rw [q4] at q1
      simp at q1
  exact ⟨hb, h.f, rowk_block h.lo fun b q => hne b (hlr b q), h.fl, fun x hx => ⟨owns_block (h.e x hx).1 fun b q => hne b (her x hx b q), (h.e x hx).2⟩, h.ap, by rw [h.fs, hfs], h.nb, h.few, hn, fun j hj => by have := h.lt j hj; simpa using this⟩
/-- Behind an operation on the reference's disk. -/
structure Rm (w w' : World) (r : Nat) (F : Nat → Prop) (N : Nat) (s : RSt) : Prop where
  ex : ∃ F' : Nat → Prop, Rd w' r F' N s ∧ ∀ i, F' i → F i ∨ w.heap.size ≤ i
  fr : Fr F w w'
def rcut (s : RSt) (part : Int) : RSt := if s.off then s else { s with fs := s.fs.map (cutF part), off := true }
theorem cut_take (fs : List Fl) (part : Int) (i : Nat) (hi : i < fs.length) : ((fs.take i).map (cutF part) ++ fs.drop i).set i (cutF part fs[i]) = (fs.take (i + 1)).map (cutF part) ++ fs.drop (i + 1) := by
  rw [List.set_append_right _ _ (by simp; omega), List.length_map, List.length_take, Nat.min_eq_left (by omega), Nat.sub_self, List.drop_eq_getElem_cons hi, List.set_cons_zero, List.take_succ_eq_append_getElem hi, List.map_append, List.append_assoc]
  rfl
set_option maxRecDepth 100000 in
set_option maxHeartbeats 3200000 in
theorem refcut_any (w : World) (r N : Nat) (F : Nat → Prop) (s : RSt) (part : Int) (h : Rd w r F N s) (hN : N ≤ 140737488355328) (hp : part ≤ 9223372036854775807) :
    Calls Try.prog 39 #[.pointer (some ⟨r, 0, none⟩), .int .i64 part] w fun e w' => e = .returned (.tuple #[]) ∧ Rm w w' r F N (rcut s part) := by
  obtain ⟨i0, hi0, hz0, hz1, hz2⟩ := info_parts Try.info5
  obtain ⟨Lv, Z, hz⟩ := h
  have c1 : w.cell? ⟨r, 1, none⟩ = some (.bool s.off) := BxA.cell hz.b 1 _ rfl
  cases ho : s.off with
  | true =>
    rw [ho] at c1
    have HR : Hid (Rm w w r F N (rcut s part)) := by
      apply hide
      unfold rcut
      rw [ho]
      exact ⟨⟨F, ⟨Lv, Z, hz⟩, fun _ h => .inl h⟩, Fr.refl _ _⟩
    clear hz
    go_enter Try.func39, Try.ntmps39
    go_wp2_with fail
    refine bodyPost_ret (results_none rfl _ _ _) rfl ?_
    exact ⟨rfl, HR.out⟩
  | false =>
    rw [ho] at c1
    obtain ⟨P, hP⟩ : ∃ P : Nat, P = part.toNat := ⟨_, rfl⟩
    have HCK : Hid (∀ n sy, cutK part n sy = sy + min P (n - sy)) := fun n sy => by unfold cutK; rw [hP]
    have HPP : Hid ((part < 0 → P = 0) ∧ (¬ part < 0 → part = (P : Int)) ∧ P ≤ 9223372036854775807) := by apply hide; rw [hP]; omega
    obtain ⟨a, cap, hLv, hc1, hc2, -⟩ := hz.cells
    obtain ⟨n, hn⟩ : ∃ n, n = Z.length := ⟨_, rfl⟩
    rw [← hn] at hLv hc1
    subst hLv
    have HZ0 : Hid (RZ w r F N s (.slice a n cap) Z) := hz
    have HN : Hid (n = Z.length) := hn
    have hfew := hz.few
    rw [← hn] at hfew
    have HFS : Hid (Z.map RE.fl = s.fs) := hz.fs
    have HOF : Hid (s.off = false) := ho
    unfold maxLen at hc2
    clear hz hn hP ho
    go_enter Try.func39, Try.ntmps39
    go_upto_if 12 with fail
    go_cut [1] (fun v1 wA => v1 = .int .i64 (P : Int) ∧ wA = w)
    case first =>
      by_cases hpz : part < 0
      · go_wp2_with fail
        go_meet
        case rel => exact ⟨by rw [HPP.out.1 hpz]; rfl, rfl⟩
      · go_wp2_with fail
        go_meet
        case rel => exact ⟨by rw [HPP.out.2.1 hpz], rfl⟩
    case rest =>
      obtain ⟨rfl, rfl⟩ := hcut
      rename World => w0
      go_wp2_with fail
      go_loopg [4, 5, 6] n (fun kx v4 _ _ wr => ∃ (i : Nat) (F' : Nat → Prop) (Z' : List RE), v4 = .int .i64 (i : Int) ∧ i ≤ n ∧ n - i ≤ kx ∧ Hid (n = Z'.length) ∧ Hid (RZ wr r F' N { s with fs := (s.fs.take i).map (cutF part) ++ s.fs.drop i } (.slice a n cap) Z') ∧ Hid (∀ j, F' j → F j ∨ w0.heap.size ≤ j) ∧ Hid (Fr F w0 wr))
      case atStart => exact ⟨0, F, Z, rfl, Nat.zero_le _, Nat.le_refl _, HN, by apply hide; simpa using HZ0.out, fun _ h => .inl h, Fr.refl _ _⟩
      case round =>
        obtain ⟨i, F1, Z1, rfl, hi, hkx, HN1, HZ, HF1, HFr⟩ := hrel
        by_cases hlt : i < n
        · have hltz : (i : Int) < (n : Int) := by omega
          have hil : i < Z1.length := by have := HN1.out; omega
          have hz := HZ.out
          have b0 : wr.cell? ⟨r, 0, none⟩ = some (.slice a n cap) := BxA.cell hz.b 0 _ rfl
          obtain ⟨a', c', hLe, -, -, hcs⟩ := hz.cells
          simp only [Value.slice.injEq] at hLe
          obtain ⟨rfl, hnl, rfl⟩ := hLe
          obtain ⟨g, rfl, hx⟩ := hcs (by omega)
          obtain ⟨x0, x1, x2, xf⟩ := hx i hil
          have xf1 := xf 1
          have xf2 := xf 2
          obtain ⟨q1, q2, q3⟩ := hz.e _ (List.getElem_mem hil)
          have q4 := hz.nb _ (List.getElem_mem hil)
          have hfi : i < s.fs.length := by rw [← HFS.out, List.length_map]; have := HN.out; omega
          have HFE : Hid ((Z1[i]'hil).fl = s.fs[i]'hfi) := by
            apply hide
            have := hz.fs
            have h2 : (Z1.map RE.fl)[i]? = ((s.fs.take i).map (cutF part) ++ s.fs.drop i)[i]? := by rw [this]
            rw [List.getElem?_map, List.getElem?_eq_getElem hil, List.getElem?_append_right (by simp; omega), List.length_map, List.length_take, Nat.min_eq_left (by omega), Nat.sub_self, List.getElem?_drop, Nat.add_zero, List.getElem?_eq_getElem hfi] at h2
            simpa using h2
          obtain ⟨e, he⟩ : ∃ e, e = Z1[i] := ⟨_, rfl⟩
          rw [← he] at x0 x1 x2 q1 q3 q4
          have HE : Hid (e = Z1[i]'hil) := he
          obtain ⟨enm, ev, ebs, esy⟩ := e
          simp only at x0 x1 x2 q1 q3 q4
          obtain ⟨va, vc, rfl⟩ : ∃ a c, ev = .slice a ebs.length c := by obtain ⟨a, c, e, _⟩ := q1.reads; exact ⟨_, _, e⟩
          obtain ⟨K, hK1, hK2, hK3⟩ : ∃ K : Nat, K = esy + min P (ebs.length - esy) ∧ K ≤ ebs.length ∧ esy ≤ K := ⟨_, rfl, by omega, by omega⟩
          have HCT : Hid (cutF part (s.fs[i]'hfi) = ⟨enm, ebs.take K, K⟩) := by
            apply hide
            rw [← HFE.out, ← HE.out]
            unfold cutF
            simp only [RE.fl, HCK.out]
            rw [← hK1]
          have HRT : Hid (RdsK 1 wr (.slice va K vc) K (bv (ebs.take K))) := by
            apply hide
            have hh := (Reads.cutR q1.reads K hK2).k
            rwa [List.length_take, Nat.min_eq_left hK2] at hh
          have hvc : ebs.length ≤ vc ∧ vc ≤ 2 ^ 63 - 1 := by
            obtain ⟨a', c', e', z1, z2, -⟩ := q1.reads
            simp only [Value.slice.injEq, true_and] at e'
            obtain ⟨-, rfl⟩ := e'
            exact ⟨z1, z2⟩
          have HW1 : Hid (wrap64 ((i : Int) + 1) = (i : Int) + 1) := by apply hide; rw [← IntWalk.i64_left, IntKind.wrap_i64]; omega
          have HQ : Hid (0 + K ≤ maxLen ∧ ((0 + K) + (0 + K) / 4 + 192) * 1 ≤ 281474976710656) := by apply hide; unfold maxLen; omega
          have HKL : Hid (K ≤ ebs.length ∧ K ≤ N) := by apply hide; omega
          have HRG : Hid (r ≠ g) := hz.rg
          have HK1 : Hid (K = esy + min P (ebs.length - esy) ∧ esy ≤ ebs.length) := ⟨hK1, q3⟩
          clear hcs hx xf he q1 q2 HFE hnl hK1 hK3
          go_upto_if 42 with fail
          rename World => w7
          go_cut [5] (fun v5 wA => v5 = .int .i64 (K : Int) ∧ wA = w7)
          case first =>
            by_cases hq : (P : Int) < (ebs.length : Int) - (esy : Int)
            · have HK4 : Hid ((esy : Int) + (P : Int) = (K : Int)) := by apply hide; have := HK1.out; omega
              go_wp2_with fail
              go_meet
              case rel => exact ⟨by rw [← HK4.out], rfl⟩
            · have HK4 : Hid (K = ebs.length) := by apply hide; have := HK1.out; omega
              go_wp2_with fail
              go_meet
              case rel => exact ⟨by rw [HK4.out], rfl⟩
          case rest =>
            obtain ⟨rfl, rfl⟩ := hcut
            rename World => w8
            have hKz : (0 : Int) ≤ (K : Int) := by omega
            have hKc : (K : Int) ≤ (vc : Int) := by omega
            go_wp2_with (first | (at_builtin; refine wpList_appF rfl _ _ 33 rfl 0 5 i0 (.int .u8 0) 1 1 Try.underlying33 hi0 hz0 hz1 hz2 rfl (by decide) (.slice none 0 0) 0 [] rfl ⟨rfl, .inl ⟨rfl, rfl⟩⟩ (.slice va K vc) K (bv (ebs.take K)) rfl HRT.out (bv_one _) HQ.out.1 HQ.out.2 (Nat.zero_le _) ?_; intro v9 w9 o9 g9 p9; obtain ⟨xa9, xc9, hx9⟩ := own_sl o9; rw [Nat.zero_add] at hx9; subst hx9; have HO9 : Hid (Owns w9 0 (.slice xa9 K xc9) (ebs.take K)) := (by apply hide; unfold Owns; rw [List.length_take, Nat.min_eq_left HKL.out.1]; rw [Nat.zero_add, List.nil_append] at o9; exact o9); have HG9 : Hid (w8.grownBy w9 none) := g9; have HV9 : Hid (∀ b, Value.ownBlock (.slice xa9 K xc9) = some b → w8.heap.size ≤ b) := (fun b hb => (by rcases p9 with q | ⟨g2, q, hg2⟩; (rw [q] at hb; cases hb); (rw [q] at hb; injection hb with hb; omega))); clear o9 g9 p9; have HB9 : Hid (RowKit.Below w8.heap.size w8 w9) := ⟨HG9.out.os, HG9.out.tape, HG9.out.output, HG9.out.size, fun i hi => HG9.out.block i hi (by simp)⟩; have b9 : w9.cell? ⟨r, 0, none⟩ = some (.slice (some ⟨g, 0, none⟩) n cap) := (by rw [HB9.out.cell (World.block_lt_of_cell? _ _ b0), b0]); have y1 : w9.cell? ⟨g, i * 3 + 1, none⟩ = some (.slice va ebs.length vc) := (by rw [HB9.out.cell (World.block_lt_of_cell? _ _ x1), x1]); have y2 : w9.cell? ⟨g, i * 3 + 2, none⟩ = some (.int .i64 (esy : Int)) := (by rw [HB9.out.cell (World.block_lt_of_cell? _ _ x2), x2]); have fz1 : w9.frozen? ⟨g, i * 3 + 1, none⟩ = false := (by rw [HB9.out.frozen (World.block_lt_of_cell? _ _ x1)]; exact xf1); have s0 : (w9.setCell ⟨g, i * 3 + 1, none⟩ (.slice xa9 K xc9)).cell? ⟨r, 0, none⟩ = some (.slice (some ⟨g, 0, none⟩) n cap) := (by rw [World.cell?_setCell_other (h := fun q => HRG.out (congrArg Addr.block q).symm)]; exact b9); have s2 : (w9.setCell ⟨g, i * 3 + 1, none⟩ (.slice xa9 K xc9)).cell? ⟨g, i * 3 + 2, none⟩ = some (.int .i64 (esy : Int)) := (by rw [World.cell?_setCell_other (h := fun q => (by have q' : i * 3 + 1 = i * 3 + 2 := congrArg Addr.off q; omega))]; exact y2); have fz2 : (w9.setCell ⟨g, i * 3 + 1, none⟩ (.slice xa9 K xc9)).frozen? ⟨g, i * 3 + 2, none⟩ = false := (by rw [World.frozen?_setCell, HB9.out.frozen (World.block_lt_of_cell? _ _ x2)]; exact xf2)))
            go_wp2_with fail
            go_roundg (n - (i + 1))
            case measure => exact Nat.lt_of_lt_of_le (Nat.sub_lt_sub_left hlt (Nat.lt_succ_self i)) hkx
            case rel =>
              have hz1 := HZ.out
              have hnl : n = Z1.length := HN1.out
              have hil1 : i < Z1.length := by omega
              have hz2 : RZ w8 r F1 N { s with fs := (s.fs.take i).map (cutF part) ++ s.fs.drop i } (.slice (some ⟨g, 0, none⟩) Z1.length cap) Z1 := by rw [← hnl]; exact hz1
              have hf := hz2.file i hil1 (.slice xa9 K xc9) (ebs.take K) K HG9.out HO9.out HV9.out (by rw [List.length_take]; have := HKL.out; omega) (by rw [List.length_take]; have := HKL.out; omega)
              have hnm : (Z1[i]'hil1).nm = enm := by rw [← HE.out]
              rw [hnm] at hf
              have hfi2 : i < s.fs.length := by rw [← HFS.out, List.length_map, ← HN.out]; exact hlt
              have hct : ({ s with fs := ((s.fs.take i).map (cutF part) ++ s.fs.drop i).set i ⟨enm, ebs.take K, K⟩ } : RSt) = { s with fs := (s.fs.take (i + 1)).map (cutF part) ++ s.fs.drop (i + 1) } := by
                rw [← HCT.out, cut_take s.fs part i hfi2]
              refine ⟨i + 1, (fun j => F1 j ∨ Value.ownBlock (.slice xa9 K xc9) = some j), Z1.set i ⟨enm, .slice xa9 K xc9, ebs.take K, K⟩, by first | (rw [HW1.out]; rfl) | rfl, hlt, Nat.le_refl _, ?_, ?_, ?_, ?_⟩
              rotate_left
              · apply hide
                have hq : RZ _ r _ N ({ s with fs := ((s.fs.take i).map (cutF part) ++ s.fs.drop i).set i ⟨enm, ebs.take K, K⟩ } : RSt) _ _ := hf
                rw [hct, ← hnl] at hq
                exact hq
              · apply hide
                intro j hj
                rcases hj with hj | hj
                · exact HF1.out j hj
                · right
                  have := HV9.out j hj
                  have := HFr.out.size
                  omega
              · apply hide
                have gA : Fr F w0 w9 := HFr.out.trans (Fr.of_below (F := F) HB9.out) fun _ _ h => h
                have hFg : F g ∨ w0.heap.size ≤ g := HF1.out g (hz1.fl g rfl)
                refine (gA.trans (Fr.of_grown (F := fun j => F j ∨ w0.heap.size ≤ j) grown_setCell fun j hj => .inl (by cases hj; exact hFg)) fun j hj h => ?_).trans (Fr.of_grown (F := fun j => F j ∨ w0.heap.size ≤ j) grown_setCell fun j hj => .inl (by cases hj; exact hFg)) fun j hj h => ?_
                · rcases h with h | h
                  · exact h
                  · omega
                · rcases h with h | h
                  · exact h
                  · omega
              · apply hide
                rw [List.length_set]
                exact hnl
        · have hltz : ¬ (i : Int) < (n : Int) := by omega
          have hz := HZ.out
          have b1 : wr.cell? ⟨r, 1, none⟩ = some (.bool false) := by
            have := BxA.cell hz.b 1 _ rfl
            have e : s.off = false := HOF.out
            rw [this]
            show some (Value.bool s.off) = _
            rw [e]
          have b0 : wr.cell? ⟨r, 0, none⟩ = some (.slice a n cap) := BxA.cell hz.b 0 _ rfl
          have f1 := BxA.free hz.b 1
          have HBS : Hid (BxA (wr.setCell ⟨r, 1, none⟩ (.bool true)) r 38 #[.slice a n cap, .bool true, .int .i64 (s.n : Int), .int .i64 s.at_, .int .i64 s.part]) := BxA.set hz.b 1 (.bool true)
          clear hz
          go_wp2_with fail
          go_end0
          refine ⟨rfl, ⟨F1, ⟨.slice a n cap, Z1, ?_⟩, HF1.out⟩, ?_⟩
          · have hz := HZ.out
            have hin : i = n := by omega
            have hsl : s.fs.length ≤ i := by rw [← HFS.out, List.length_map, ← HN.out]; omega
            have e1 : (s.fs.take i).map (cutF part) ++ s.fs.drop i = s.fs.map (cutF part) := by rw [List.take_of_length_le hsl, List.drop_eq_nil_of_le hsl, List.append_nil]
            have e2 : rcut s part = { s with fs := s.fs.map (cutF part), off := true } := by unfold rcut; rw [HOF.out]; rfl
            rw [e2]
            exact hz.boxn (s' := { s with fs := s.fs.map (cutF part), off := true }) (Lv' := .slice a n cap) 1 (.bool true) HBS.out e1.symm hz.nn
          · exact HFr.out.trans (Fr.of_grown grown_setCell fun j hj => .inl (by cases hj; exact HZ0.out.f)) fun _ _ h => h
end Go.Proofs.Ythegdhbmfojdaaa

namespace Go.Proofs.Ythegdhbmfojdaaa
open Go.RowKit Go.Maps Go.Sort
set_option linter.unusedVariables false

/-- An operation is counted: whether it is cut, and the disk. -/
def rcnt (s : RSt) : Bool × RSt := if (s.n : Int) = s.at_ then (true, rcut { s with n := s.n + 1 } s.part) else (false, { s with n := s.n + 1 })
theorem gro_below (w : World) (q : Nat) (os : Array Obj) : Below w.heap.size w (Go.Sort.grow (w.drewN q) os) :=
  ⟨rfl, rfl, rfl, by show _ ≤ ((w.drewN q).heap ++ os).size; rw [Array.size_append]; exact Nat.le_add_right _ _, fun i hi => by
    show ((w.drewN q).heap ++ os)[i]? = _
    rw [Array.getElem?_append_left (by exact hi)]
    rfl⟩
theorem gro_cell {w : World} {a : Addr} {v : Value} (h : w.cell? a = some v) (nq : Nat) (os : Array Obj) : (Go.Sort.grow (w.drewN nq) os).cell? a = some v := by
  rw [(gro_below w nq os).cell (World.block_lt_of_cell? _ _ h), h]
set_option maxRecDepth 100000 in
set_option maxHeartbeats 1600000 in
theorem refcounts_any (w : World) (r N : Nat) (F : Nat → Prop) (s : RSt) (h : Rd w r F N s) (hN : N ≤ 140737488355328) (hop : s.n < 1000000) (hp : s.part ≤ 9223372036854775807) :
    Calls Try.prog 73 #[.pointer (some ⟨r, 0, none⟩)] w fun e w' => e = .returned (.bool (rcnt s).1) ∧ Rm w w' r F N (rcnt s).2 := by
  have mixed : Try.prog.follows .mixedOrders = true := by kernel_rfl
  obtain ⟨Lv, Z, hz⟩ := h
  have c2 : w.cell? ⟨r, 2, none⟩ = some (.int .i64 (s.n : Int)) := BxA.cell hz.b 2 _ rfl
  have f2 := BxA.free hz.b 2
  have hb2 := BxA.set hz.b 2 (.int .i64 ((s.n : Int) + 1))
  have hz2 : RZ (w.setCell ⟨r, 2, none⟩ (.int .i64 ((s.n : Int) + 1))) r F N { s with n := s.n + 1 } Lv Z := hz.boxn (s' := { s with n := s.n + 1 }) (Lv' := Lv) 2 _ (by
    have e : (((s.n + 1 : Nat)) : Int) = (s.n : Int) + 1 := by omega
    show BxA _ r 38 #[Lv, .bool s.off, .int .i64 ((s.n + 1 : Nat) : Int), .int .i64 s.at_, .int .i64 s.part]
    rw [e]
    exact hb2) rfl (by show s.n + 1 ≤ 1000000; omega)
  have HFR : Hid (Fr F w (w.setCell ⟨r, 2, none⟩ (.int .i64 ((s.n : Int) + 1)))) := Fr.of_grown grown_setCell fun j hj => .inl (by cases hj; exact hz.f)
  obtain ⟨X, hX⟩ : ∃ X, X = w.setCell ⟨r, 2, none⟩ (.int .i64 ((s.n : Int) + 1)) := ⟨_, rfl⟩
  rw [← hX] at hz2 HFR
  have HX : Hid (X = w.setCell ⟨r, 2, none⟩ (.int .i64 ((s.n : Int) + 1))) := hX
  have HZ2 : Hid (RZ X r F N { s with n := s.n + 1 } Lv Z) := hz2
  have y2 : X.cell? ⟨r, 2, none⟩ = some (.int .i64 ((s.n : Int) + 1)) := by
    rw [hX, World.cell?_setCell_same (h := c2)]
  have y3 : X.cell? ⟨r, 3, none⟩ = some (.int .i64 s.at_) := BxA.cell hz2.b 3 _ rfl
  have y4 : X.cell? ⟨r, 4, none⟩ = some (.int .i64 s.part) := BxA.cell hz2.b 4 _ rfl
  have hw1 : wrap64 ((s.n : Int) + 1) = (s.n : Int) + 1 := by rw [← IntWalk.i64_left, IntKind.wrap_i64]; omega
  have hw2 : IntKind.i64.wrap ((s.n : Int) + 1) = (s.n : Int) + 1 := by rw [IntKind.wrap_i64]; omega
  obtain ⟨n, hn⟩ : ∃ n : Nat, n = s.n := ⟨_, rfl⟩
  obtain ⟨at_, hat⟩ : ∃ a, a = s.at_ := ⟨_, rfl⟩
  rw [← hn] at c2 y2 hw1 hw2 HX
  rw [← hat] at y3
  have HNS : Hid (n = s.n ∧ at_ = s.at_ ∧ n < 1000000) := ⟨hn, hat, by omega⟩
  have z2 := fun nq os => gro_cell y2 nq os
  have z3 := fun nq os => gro_cell y3 nq os
  clear hz hb2 hz2 hX hn hat
  go_enter Try.func73, Try.ntmps73
  go_upto_region 2 with fail
  rw [← HX.out]
  by_cases he : (n : Int) = at_
  · have HR : Hid (rcnt s = (true, rcut { s with n := s.n + 1 } s.part)) := by
      apply hide
      unfold rcnt
      rw [if_pos]
      rw [← HNS.out.1, ← HNS.out.2.1]
      exact he
    have he1 : (n : Int) + 1 - 1 = (n : Int) := by omega
    subst he
    have he2 : ((n : Int) != (n : Int)) = false := by simp
    have he3 : decide ((n : Int) = (n : Int)) = true := by simp
    have hw3 : wrap64 ((n : Int) + 1 - 1) = (n : Int) := by rw [← IntWalk.i64_left, IntKind.wrap_i64]; have := HNS.out.2.2; omega
    have hw4 : IntKind.i64.wrap ((n : Int) + 1 - 1) = (n : Int) := by rw [IntKind.wrap_i64]; have := HNS.out.2.2; omega
    have hw5 : wrap64 (n : Int) = (n : Int) := by rw [← IntWalk.i64_left, IntKind.wrap_i64]; have := HNS.out.2.2; omega
    have hw6 : IntKind.i64.wrap (n : Int) = (n : Int) := by rw [IntKind.wrap_i64]; have := HNS.out.2.2; omega
    refine wp_region_quiet_grown (by assumption) (by kernel_rfl) ?_
    repeat (go_big_quiet_step (fail))
    refine wpQuiet_nil ?_
    intro T hw'
    obtain ⟨⟨nq, osq⟩, hw''⟩ := hw'
    have HBT : Hid (RowKit.Below X.heap.size X T) := by apply hide; rw [hw'']; exact gro_below X nq osq
    have t4 : T.cell? ⟨r, 4, none⟩ = some (.int .i64 s.part) := by rw [HBT.out.cell (World.block_lt_of_cell? _ _ y4), y4]
    have kC := refcut_any T r N F { s with n := s.n + 1 } s.part (Rd.below ⟨Lv, Z, HZ2.out⟩ HBT.out) hN hp
    clear hw'' z2 z3 hw3 hw4 he1 he3
    go_wp2_with fail
    refine kC.mono ?_
    rintro e w9 ⟨rfl, ⟨F9, d9, hF9⟩, f9⟩
    have H9 : Hid (Rd w9 r F9 N (rcut { s with n := s.n + 1 } s.part) ∧ (∀ i, F9 i → F i ∨ T.heap.size ≤ i) ∧ Fr F T w9) := ⟨d9, hF9, f9⟩
    clear kC d9 hF9 f9
    go_wp2_with fail
    go_ret
    rw [HR.out]
    refine ⟨rfl, ⟨F9, H9.out.1, fun i hi => (H9.out.2.1 i hi).imp id fun q => ?_⟩, (HFR.out.trans (Fr.of_below HBT.out) fun _ _ h => h).trans H9.out.2.2 fun _ _ h => h⟩
    have h1 := HFR.out.size
    have h2 := HBT.out.size
    omega
  · have HR : Hid (rcnt s = (false, { s with n := s.n + 1 })) := by
      apply hide
      unfold rcnt
      rw [if_neg]
      rw [← HNS.out.1, ← HNS.out.2.1]
      exact he
    have he2 : ((n : Int) != at_) = true := by rw [bne_iff_ne]; exact he
    have he3 : decide ((n : Int) = at_) = false := decide_eq_false he
    have hw3 : wrap64 ((n : Int) + 1 - 1) = (n : Int) := by rw [← IntWalk.i64_left, IntKind.wrap_i64]; have := HNS.out.2.2; omega
    have hw4 : IntKind.i64.wrap ((n : Int) + 1 - 1) = (n : Int) := by rw [IntKind.wrap_i64]; have := HNS.out.2.2; omega
    have hw5 : wrap64 (n : Int) = (n : Int) := by rw [← IntWalk.i64_left, IntKind.wrap_i64]; have := HNS.out.2.2; omega
    have hw6 : IntKind.i64.wrap (n : Int) = (n : Int) := by rw [IntKind.wrap_i64]; have := HNS.out.2.2; omega
    refine wp_region_quiet_grown (by assumption) (by kernel_rfl) ?_
    repeat (go_big_quiet_step (fail))
    refine wpQuiet_nil ?_
    intro T hw'
    obtain ⟨⟨nq, osq⟩, hw''⟩ := hw'
    have HBT : Hid (RowKit.Below X.heap.size X T) := by apply hide; rw [hw'']; exact gro_below X nq osq
    clear hw'' z2 z3 hw3 hw4 he3
    go_wp2_with fail
    go_ret
    rw [HR.out]
    exact ⟨rfl, ⟨F, Rd.below ⟨Lv, Z, HZ2.out⟩ HBT.out, fun _ h => .inl h⟩, HFR.out.trans (Fr.of_below HBT.out) fun _ _ h => h⟩
end Go.Proofs.Ythegdhbmfojdaaa
