/- The reference's disk as it lies in memory; its Name, Find, refused. -/
import Derived.Test.YtdcoeebpknipdaaFn12
namespace Go.Proofs.Ytdcoeebpknipdaa
open Go.RowKit Go.Maps Go.Sort
set_option linter.unusedVariables false

/-- A file of the reference, as it lies in memory. -/
structure RE where
  nm : Str
  v : Value
  bs : Str
  sy : Nat
def RE.cs (e : RE) : List Value := [.string ⟨e.nm.toArray⟩, e.v, .int .i64 (e.sy : Int)]
def RE.fl (e : RE) : Fl := ⟨e.nm, e.bs, e.sy⟩
def rcs (Z : List RE) : List Value := Z.flatMap RE.cs
theorem rcs_len (Z : List RE) : (rcs Z).length = Z.length * 3 := by
  unfold rcs
  induction Z with
  | nil => rfl
  | cons e Z ih => rw [List.flatMap_cons, List.length_append, ih]; simp [RE.cs]; omega
theorem rcs_get (Z : List RE) (i : Nat) (hi : i < Z.length) (c : Nat) (hc : c < 3) : (rcs Z)[i * 3 + c]? = (Z[i].cs)[c]? := by
  induction Z generalizing i with
  | nil => simp at hi
  | cons e Z ih =>
    have hl : e.cs.length = 3 := rfl
    cases i with
    | zero =>
      show (e.cs ++ rcs Z)[0 * 3 + c]? = _
      rw [List.getElem?_append_left (by rw [hl]; omega)]
      simp
    | succ i =>
      show (e.cs ++ rcs Z)[(i + 1) * 3 + c]? = _
      rw [List.getElem?_append_right (by rw [hl]; omega), hl, show (i + 1) * 3 + c - 3 = i * 3 + c by omega, ih i (by simpa using hi)]
      rfl
/-- The reference's disk, as it is said. -/
structure RSt where
  fs : List Fl
  off : Bool
  n : Nat
  at_ : Int
  part : Int
structure RZ (w : World) (r : Nat) (F : Nat → Prop) (N : Nat) (s : RSt) (Lv : Value) (Z : List RE) : Prop where
  b : BxA w r 34 #[Lv, .bool s.off, .int .i64 (s.n : Int), .int .i64 s.at_, .int .i64 s.part]
  f : F r
  lo : w.ownsRow 0 68 3 Lv Z.length (rcs Z)
  fl : ∀ b, Lv.ownBlock = some b → F b
  e : ∀ x ∈ Z, Owns w 0 x.v x.bs ∧ (∀ b, x.v.ownBlock = some b → F b) ∧ x.sy ≤ x.bs.length
  ap : Z.Pairwise fun a b => ∀ c, a.v.ownBlock = some c → b.v.ownBlock ≠ some c
  fs : Z.map RE.fl = s.fs
  nb : ∀ x ∈ Z, x.bs.length ≤ N
  few : Z.length ≤ 1000
  nn : s.n ≤ 1000000
  lt : ∀ i, F i → i < w.heap.size
structure Rd (w : World) (r : Nat) (F : Nat → Prop) (N : Nat) (s : RSt) : Prop where
  ex : ∃ Lv Z, RZ w r F N s Lv Z
theorem rowk_block {w w' : World} {base e k n : Nat} {v : Value} {xs : List Value} (h : w.ownsRow base e k v n xs) (hb : ∀ r, v.ownBlock = some r → w'.heap[r]? = w.heap[r]?) : w'.ownsRow base e k v n xs := by
  refine ⟨h.1, ?_⟩
  rcases h.2 with h2 | ⟨g, cap, cur, h1, h2, h3, h4⟩
  · exact .inl h2
  · refine .inr ⟨g, cap, cur, h1, h2, ?_, h4⟩
    rw [hb g (by rw [h1]; rfl)]
    exact h3
theorem RZ.frame {w w' : World} {r N : Nat} {F : Nat → Prop} {s : RSt} {Lv : Value} {Z : List RE} (h : RZ w r F N s Lv Z) (hs : w.heap.size ≤ w'.heap.size) (hb : ∀ i, F i → w'.heap[i]? = w.heap[i]?) : RZ w' r F N s Lv Z :=
  ⟨by have := h.b; unfold BxA at this ⊢; rw [hb _ h.f]; exact this, h.f, rowk_block h.lo fun b q => hb b (h.fl b q), h.fl, fun x hx => ⟨owns_block (h.e x hx).1 fun b q => hb b ((h.e x hx).2.1 b q), (h.e x hx).2⟩, h.ap, h.fs, h.nb, h.few, h.nn, fun i hi => Nat.lt_of_lt_of_le (h.lt i hi) hs⟩
theorem Rd.below {w w' : World} {r N : Nat} {F : Nat → Prop} {s : RSt} (h : Rd w r F N s) (hb : Below w.heap.size w w') : Rd w' r F N s := by
  obtain ⟨Lv, Z, h⟩ := h
  exact ⟨Lv, Z, h.frame hb.size fun i hi => hb.block i (h.lt i hi)⟩
theorem Rd.other {w w' : World} {r N : Nat} {F G : Nat → Prop} {s : RSt} (h : Rd w r F N s) (hf : Fr G w w') (ha : ∀ i, F i → ¬ G i) : Rd w' r F N s := by
  obtain ⟨Lv, Z, h⟩ := h
  exact ⟨Lv, Z, h.frame hf.size fun i hi => hf.block i (h.lt i hi) (ha i hi)⟩
theorem RZ.cells {w : World} {r N : Nat} {F : Nat → Prop} {s : RSt} {Lv : Value} {Z : List RE} (h : RZ w r F N s Lv Z) : ∃ a c, Lv = .slice a Z.length c ∧ Z.length ≤ c ∧ c ≤ maxLen ∧ (0 < Z.length → ∃ g, a = some ⟨g, 0, none⟩ ∧ ∀ i (hi : i < Z.length), w.cell? ⟨g, i * 3, none⟩ = some (.string ⟨Z[i].nm.toArray⟩) ∧ w.cell? ⟨g, i * 3 + 1, none⟩ = some Z[i].v ∧ w.cell? ⟨g, i * 3 + 2, none⟩ = some (.int .i64 (Z[i].sy : Int)) ∧ ∀ c, w.frozen? ⟨g, i * 3 + c, none⟩ = false) := by
  rcases h.lo.2 with ⟨hv, hn⟩ | ⟨g, cap, cur, hv, h2, h3, h4, h5, h6, h7⟩
  · exact ⟨none, 0, by rw [hn]; exact hv, by omega, Nat.zero_le _, fun h => by omega⟩
  · refine ⟨some ⟨g, 0, none⟩, cap, hv, h4, h5, fun _ => ⟨g, rfl, fun i hi => ?_⟩⟩
    have hlo := h.lo
    rw [hv] at hlo
    have key : ∀ c, c < 3 → w.cell? ⟨g, i * 3 + c, none⟩ = (Z[i].cs)[c]? := fun c hc => by
      rw [← rcs_get Z i hi c hc, World.ownsRow.cellAt hlo (i * 3 + c) (by omega)]
    refine ⟨?_, ?_, ?_, fun c => World.ownsRow.frozenAt hlo _⟩
    · exact key 0 (by omega)
    · exact key 1 (by omega)
    · exact key 2 (by omega)
theorem Reads.cutR {w : World} {ao : Option Addr} {c : Nat} {l : Str} (h : Reads w (.slice ao l.length c) l) (k : Nat) (hk : k ≤ l.length) : Reads w (.slice ao k c) (l.take k) := by
  obtain ⟨ao', c', e, h1, h2, h3, h4⟩ := h
  simp only [Value.slice.injEq, true_and] at e
  obtain ⟨rfl, rfl⟩ := e
  refine ⟨ao, c, by rw [List.length_take, Nat.min_eq_left hk], by rw [List.length_take]; omega, h2, fun q => ⟨by rw [List.length_take]; have := (h3 q).1; omega, (h3 q).2⟩, fun ad had j u hj => h4 ad had j u ?_⟩
  have : bv (l.take k) = (bv l).take k := by simp [bv, List.map_take]
  rw [this, List.getElem?_take] at hj
  split at hj
  · exact hj
  · cases hj
set_option maxHeartbeats 800000 in
theorem refname_any (w : World) (t : Str) (ht : t.length ≤ maxLen) : Calls Try.prog 53 #[.string ⟨t.toArray⟩] w fun e w' => e = .returned (.bool (isNm t)) ∧ w' = w := by
  unfold maxLen at ht
  have hsz := str_size t
  by_cases h1 : t.length < 1
  · have h1z : (t.length : Int) < 1 := by omega
    have HE : Hid (isNm t = false) := by apply hide; unfold isNm; simp [h1]
    go_enter Try.func53, Try.ntmps53
    go_wp2_with fail
    go_ret
    exact ⟨by rw [HE.out]; rfl, rfl⟩
  have h1z : ¬ (t.length : Int) < 1 := by omega
  by_cases h2 : 64 < t.length
  · have h2z : (64 : Int) < (t.length : Int) := by omega
    have HE : Hid (isNm t = false) := by apply hide; unfold isNm; simp [h2]
    go_enter Try.func53, Try.ntmps53
    go_wp2_with fail
    go_ret
    exact ⟨by rw [HE.out]; rfl, rfl⟩
  have h2z : ¬ (64 : Int) < (t.length : Int) := by omega
  have HNO : Hid (∀ i, i < t.length → nmB (t.getD i 0) = false → isNm t = false) := fun i hi h => by
    unfold isNm
    have : t.all nmB = false := by
      rw [List.all_eq_false]
      refine ⟨t[i], List.getElem_mem hi, ?_⟩
      rw [show t[i] = t.getD i 0 by simp [hi], h]
      simp
    rw [this, Bool.and_false]
  have HYES : Hid ((∀ i, i < t.length → nmB (t.getD i 0) = true) → isNm t = true) := fun h => by
    unfold isNm
    have : t.all nmB = true := by
      rw [List.all_eq_true]
      intro c hc
      obtain ⟨i, hi, rfl⟩ := List.getElem_of_mem hc
      have := h i hi
      rwa [show t.getD i 0 = t[i] by simp [hi]] at this
    rw [this]
    simp [h1, h2]
  go_enter Try.func53, Try.ntmps53
  go_wp2_with fail
  go_loop [3] (fun i => ∃ k : Nat, k ≤ t.length ∧ i = .int .i64 k ∧ Hid (∀ i, i < k → nmB (t.getD i 0) = true)) (fun i => t.length - (intOf i).toNat)
  case atStart => exact ⟨0, by omega, rfl, fun i hi => by omega⟩
  case round =>
    obtain ⟨k, hk, rfl, HA⟩ := hrel
    by_cases hlt : k < t.length
    · have hltz : (k : Int) < (t.length : Int) := by omega
      have hks : k < (⟨t.toArray⟩ : ByteArray).size := by rw [hsz]; exact hlt
      have hz : ((⟨t.toArray⟩ : ByteArray)[k]'hks).toNat = (t.getD k 0).toNat := by
        have : ((⟨t.toArray⟩ : ByteArray)[k]'hks) = t[k] := rfl
        rw [this]
        simp [hlt]
      cases hb : nmB (t.getD k 0) with
      | false =>
        have HF : Hid (isNm t = false) := HNO.out k hlt hb
        unfold nmB at hb
        rw [Bool.not_eq_false', Bool.or_eq_true, decide_eq_true_eq, decide_eq_true_eq] at hb
        by_cases hq : (t.getD k 0).toNat < 33
        · have d1 : (((⟨t.toArray⟩ : ByteArray)[k]'hks).toNat : Int) < 33 := by rw [hz]; omega
          clear hb hq hz
          go_wp2_with fail
          go_ret
          exact ⟨by rw [HF.out]; rfl, rfl⟩
        · have d1 : ¬ (((⟨t.toArray⟩ : ByteArray)[k]'hks).toNat : Int) < 33 := by rw [hz]; omega
          have d2 : (126 : Int) < (((⟨t.toArray⟩ : ByteArray)[k]'hks).toNat : Int) := by rw [hz]; omega
          clear hb hq hz
          go_wp2_with fail
          go_ret
          exact ⟨by rw [HF.out]; rfl, rfl⟩
      | true =>
        have HT : Hid (nmB (t.getD k 0) = true) := hb
        unfold nmB at hb
        rw [Bool.not_eq_true', Bool.or_eq_false_iff, decide_eq_false_iff_not, decide_eq_false_iff_not] at hb
        have d1 : ¬ (((⟨t.toArray⟩ : ByteArray)[k]'hks).toNat : Int) < 33 := by rw [hz]; have := hb.1; omega
        have d2 : ¬ (126 : Int) < (((⟨t.toArray⟩ : ByteArray)[k]'hks).toNat : Int) := by rw [hz]; have := hb.2; omega
        clear hb hz
        go_wp2_with fail
        go_round
        case rel =>
          refine ⟨k + 1, by omega, by go_num, fun i hi => ?_⟩
          by_cases hik : i = k
          · rw [hik]; exact HT.out
          · exact HA.out i (by omega)
        case measure => simp [intOf]; omega
    · have hltz : ¬ (k : Int) < (t.length : Int) := by omega
      go_wp2_with fail
      go_ret
      exact ⟨by rw [HYES.out fun i hi => HA.out i (by omega)]; rfl, rfl⟩
/-- Where a file is. -/
def fI (fs : List Fl) (t : Str) : Int := match fs.findIdx? (fun f => f.nm == t) with
  | some i => (i : Int)
  | none => -1
theorem fI_some {fs : List Fl} {t : Str} {i : Nat} (hi : i < fs.length) (h : fs[i].nm = t) (hn : ∀ j (hj : j < fs.length), j < i → fs[j].nm ≠ t) : fI fs t = (i : Int) := by
  unfold fI
  have : fs.findIdx? (fun f => f.nm == t) = some i := by
    rw [List.findIdx?_eq_some_iff_getElem]
    refine ⟨hi, by simpa using h, fun j hj => ?_⟩
    have := hn j (by omega) hj
    simpa using this
  rw [this]
theorem fI_none {fs : List Fl} {t : Str} (h : hasF fs t = false) : fI fs t = -1 := by
  unfold fI
  have : fs.findIdx? (fun f => f.nm == t) = none := by
    rw [List.findIdx?_eq_none_iff]
    intro f hf
    unfold hasF at h
    rw [List.any_eq_false] at h
    simpa using h f hf
  rw [this]
set_option maxRecDepth 100000 in
set_option maxHeartbeats 1600000 in
theorem reffind_any (w : World) (r N : Nat) (F : Nat → Prop) (s : RSt) (t : Str) (h : Rd w r F N s) :
    Calls Try.prog 54 #[.pointer (some ⟨r, 0, none⟩), .string ⟨t.toArray⟩] w fun e w' => e = .returned (.int .i64 (fI s.fs t)) ∧ w' = w := by
  obtain ⟨Lv, Z, hz⟩ := h
  obtain ⟨a, c, rfl, hc1, hc2, hcs⟩ := hz.cells
  have c0 : w.cell? ⟨r, 0, none⟩ = some (.slice a Z.length c) := BxA.cell hz.b 0 _ rfl
  have HC : Hid (0 < Z.length → ∃ g, a = some ⟨g, 0, none⟩ ∧ ∀ i (hi : i < Z.length), w.cell? ⟨g, i * 3, none⟩ = some (.string ⟨Z[i].nm.toArray⟩)) := fun hp => by
    obtain ⟨g, e, hx⟩ := hcs hp
    exact ⟨g, e, fun i hi => (hx i hi).1⟩
  have HFS : Hid (Z.map RE.fl = s.fs) := hz.fs
  have hfew := hz.few
  obtain ⟨n, hn⟩ : ∃ n, n = Z.length := ⟨_, rfl⟩
  have HN : Hid (n = Z.length) := hn
  rw [← hn] at c0 hc1 hfew
  unfold maxLen at hc2
  clear hcs hz hn
  go_enter Try.func54, Try.ntmps54
  go_wp2_with fail
  go_loop [5] (fun i => ∃ k : Nat, k ≤ n ∧ i = .int .i64 k ∧ Hid (∀ i (hi : i < Z.length), i < k → Z[i].nm ≠ t)) (fun i => n - (intOf i).toNat)
  case atStart => exact ⟨0, by omega, rfl, fun i _ hi => by omega⟩
  case round =>
    obtain ⟨k, hk, rfl, HA⟩ := hrel
    by_cases hlt : k < n
    · have hltz : (k : Int) < (n : Int) := by omega
      have hkl : k < Z.length := by have := HN.out; omega
      obtain ⟨g, rfl, hx⟩ := HC.out (by omega)
      have x0 := hx k hkl
      obtain ⟨q, hq⟩ : ∃ q, q = Z[k].nm := ⟨_, rfl⟩
      rw [← hq] at x0
      have HQ : Hid (q = (Z[k]'hkl).nm) := hq
      have HW1 : Hid (wrap64 ((k : Int) + 1) = (k : Int) + 1) := by apply hide; rw [← IntWalk.i64_left, IntKind.wrap_i64]; omega
      clear hx hq
      by_cases he : q = t
      · have he2 : (q == t) = true := by simpa using he
        have HE : Hid (fI s.fs t = (k : Int)) := by
          apply hide
          rw [← HFS.out]
          refine fI_some (by rw [List.length_map]; exact hkl) ?_ fun j hj hjk => ?_
          · rw [List.getElem_map]
            show (Z[k]'hkl).nm = t
            rw [← HQ.out]
            exact he
          · rw [List.getElem_map]
            exact HA.out j (by rw [List.length_map] at hj; exact hj) hjk
        subst he
        go_wp2_with fail
        go_ret
        exact ⟨by rw [HE.out]; rfl, rfl⟩
      · have he2 : (q == t) = false := by simpa using he
        have HNE : Hid (¬ q = t) := he
        clear he
        go_wp2_with fail
        go_round
        case rel =>
          refine ⟨k + 1, by omega, by first | (rw [HW1.out]; rfl) | go_num, fun i hi hik => ?_⟩
          by_cases e : i = k
          · subst e
            rw [← HQ.out]
            exact HNE.out
          · exact HA.out i hi (by omega)
        case measure => simp [intOf]; omega
    · have hltz : ¬ (k : Int) < (n : Int) := by omega
      have HE : Hid (fI s.fs t = -1) := by
        apply hide
        refine fI_none ?_
        rw [← HFS.out]
        unfold hasF
        rw [List.any_map, List.any_eq_false]
        intro x hx
        obtain ⟨i, hi, e⟩ := List.getElem_of_mem hx
        have := HA.out i hi (by have := HN.out; omega)
        rw [e] at this
        simpa [RE.fl] using this
      go_wp2_with fail
      go_ret
      exact ⟨by rw [HE.out]; rfl, rfl⟩
end Go.Proofs.Ytdcoeebpknipdaa
