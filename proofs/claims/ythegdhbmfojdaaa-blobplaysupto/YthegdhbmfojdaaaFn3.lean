/- Contracts of the disk's plain functions. -/
import Derived.Test.YthegdhbmfojdaaaDsk
import Derived.Lib.ConvBytes
import Derived.Test.YthegdhbmfojdaaaApp
namespace Go.Proofs.Ythegdhbmfojdaaa
open Go.RowKit Go.Maps

theorem look_ok {w : World} {mo : Option Nat} {Z : List Ent} (h : MapZ w mo Z) (t : Str) (ht : t.length ≤ maxLen) : ∃ v, (Instr.lookup 65 (.map mo) (.string ⟨t.toArray⟩) true).run Try.prog w = .ok (.tuple #[v, .bool (Z.any fun e => e.nm == t)]) w := by
  have hz : (zeroValue 90).run Try.prog w = .ok (.pointer none) w := Try.zeroValue90 w
  rcases h with ⟨rfl, rfl⟩ | ⟨m, D, rfl, ho, hd⟩
  · exact ⟨.pointer none, Maps.look_nil true law Try.underlying65 hz (key_mk t ht)⟩
  · obtain ⟨v, ps, hrun, -⟩ := ho.look_ok law Try.underlying65 hz (show pel (.pointer none) = some (.nil, []) from rfl) (key_mk t ht)
    exact ⟨v, by rw [hd.has] at hrun; exact hrun⟩
theorem look_at {w : World} {mo : Option Nat} {Z : List Ent} (h : MapZ w mo Z) {e : Ent} (he : e ∈ Z) (ht : e.nm.length ≤ maxLen) : (Instr.lookup 65 (.map mo) (.string ⟨e.nm.toArray⟩) false).run Try.prog w = .ok (.pointer (some ⟨e.g, 0, none⟩)) w := by
  have hz : (zeroValue 90).run Try.prog w = .ok (.pointer none) w := Try.zeroValue90 w
  rcases h with ⟨rfl, rfl⟩ | ⟨m, D, rfl, ho, hd⟩
  · cases he
  · obtain ⟨v, ps, hrun, hv⟩ := ho.lookup law Try.underlying65 hz (show pel (.pointer none) = some (.nil, []) from rfl) (key_mk e.nm ht)
    rw [hd.at' e he] at hv
    rw [pel_at hv] at hrun
    exact hrun
theorem len_map {w : World} {mo : Option Nat} {Z : List Ent} (h : MapZ w mo Z) (ty : TypeId) : (Builtin.len_ #[65] ty #[.map mo]).run Try.prog w = .ok (.int .i64 (Z.length : Int)) w := by
  rcases h with ⟨rfl, rfl⟩ | ⟨m, D, rfl, ho, hd⟩
  · exact Maps.len_nil Try.underlying65 ty
  · have := ho.len Try.underlying65 ty
    rw [hd.size] at this
    exact this
/-- The disk's box alone has changed. -/
theorem DkZ.box {w w' : World} {d N : Nat} {F : Nat → Prop} {s : St} {mo : Option Nat} {Z : List Ent} (h : DkZ w d F N s mo Z) (s' : St) (hb : BxA w' d 69 #[.map mo, .int .i64 (s'.ops : Int), .bool s'.off, .bool s'.set, .int .i64 s'.op, .int .i64 s'.part]) (ho : ∀ i, i ≠ d → w'.heap[i]? = w.heap[i]?) (hs : w.heap.size ≤ w'.heap.size) (hf : s'.fs = s.fs) (hops : s'.ops ≤ 1000000) : DkZ w' d F N s' mo Z := by
  have hd : w.heap[d]? = _ := h.b
  have hg : ∀ x ∈ Z, x.g ≠ d := fun x hx e => by
    have h1 : w.heap[x.g]? = _ := (h.e x hx).b
    rw [e, hd] at h1
    simp only [Option.some.injEq, Obj.cells.injEq] at h1
    exact absurd h1.2.1 (by decide)
  have hr : ∀ x ∈ Z, ∀ r, x.v.ownBlock = some r → r ≠ d := fun x hx r hr e => by
    rcases (h.e x hx).o.2 with ⟨h1, _⟩ | ⟨g, cap, cur, h1, _, h3, _⟩
    · rw [h1] at hr; cases hr
    · rw [h1] at hr
      simp only [Value.ownBlock, Option.some.injEq] at hr
      rw [← hr] at e
      rw [e, hd] at h3
      simp only [Option.some.injEq, Obj.cells.injEq] at h3
      exact absurd h3.2.1 (by decide)
  refine ⟨hb, h.f, h.m.frame fun m hm => ho m fun e => ?_, h.fm, fun x hx => ?_, h.ap, h.fs.trans hf.symm, h.n, h.nm, h.few, hops, fun i hi => Nat.lt_of_lt_of_le (h.lt i hi) hs⟩
  · rcases h.m with ⟨h1, _⟩ | ⟨m', D, h1, ⟨es, clock, h2, _⟩, _⟩
    · rw [h1] at hm; cases hm
    · rw [h1] at hm
      cases hm
      rw [e, hd] at h2
      cases h2
  · have k := h.e x hx
    exact ⟨by have := k.b; unfold BxA at this ⊢; rw [ho _ (hg x hx)]; exact this, k.f, owns_block k.o fun r h1 => ho r (hr x hx r h1), k.fv, k.le⟩
def st0 : St := ⟨[], 0, false, false, 0, 0⟩
theorem new_any (w : World) : Calls Try.prog 10 #[] w fun e w' => e = .returned (.pointer (some ⟨w.heap.size, 0, none⟩)) ∧ Dk w' w.heap.size (fun i => i = w.heap.size) 0 st0 ∧ Below w.heap.size w w' := by
  go_enter Try.func10, Try.ntmps10
  go_wp2_with fail
  go_ret
  refine ⟨rfl, ⟨none, [], BxA.new _ _ _, rfl, .inl ⟨rfl, rfl⟩, (fun _ h => by cases h), (fun _ h => by cases h), .nil, rfl, (fun _ h => by cases h), (fun _ h => by cases h), by simp, by decide, fun i hi => by rw [hi]; simp⟩, (Below.refl _ _).alloc (Nat.le_refl _) _⟩
theorem off_any (w : World) (d N : Nat) (F : Nat → Prop) (s : St) (h : Dk w d F N s) : Calls Try.prog 14 #[.pointer (some ⟨d, 0, none⟩)] w fun e w' => e = .returned (.bool s.off) ∧ w' = w := by
  obtain ⟨mo, Z, h⟩ := h
  have c2 := h.b.cell 2 _ rfl
  clear h
  go_enter Try.func14, Try.ntmps14
  go_wp2_with fail
  go_ret
  exact ⟨rfl, rfl⟩
theorem ops_any (w : World) (d N : Nat) (F : Nat → Prop) (s : St) (h : Dk w d F N s) : Calls Try.prog 17 #[.pointer (some ⟨d, 0, none⟩)] w fun e w' => e = .returned (.int .i64 (s.ops : Int)) ∧ w' = w := by
  obtain ⟨mo, Z, h⟩ := h
  have c1 := h.b.cell 1 _ rfl
  clear h
  go_enter Try.func17, Try.ntmps17
  go_wp2_with fail
  go_ret
  exact ⟨rfl, rfl⟩
theorem setd_fr {w : World} {d i N : Nat} {F : Nat → Prop} {s : St} {mo : Option Nat} {Z : List Ent} {u : Value} (h : DkZ w d F N s mo Z) : Fr F w (w.setCell ⟨d, i, none⟩ u) := Fr.of_grown grown_setCell fun j hj => .inl (by cases hj; exact h.f)
theorem on_any (w : World) (d N : Nat) (F : Nat → Prop) (s : St) (h : Dk w d F N s) : Calls Try.prog 22 #[.pointer (some ⟨d, 0, none⟩)] w fun e w' => e = .returned (.tuple #[]) ∧ Dk w' d F N { s with off := false } ∧ Fr F w w' := by
  obtain ⟨mo, Z, h⟩ := h
  have c2 := h.b.cell 2 _ rfl
  have f2 := h.b.free 2
  have H : Hid _ := h
  clear h
  go_enter Try.func22, Try.ntmps22
  go_wp2_with fail
  go_end0
  have h := H.out
  exact ⟨rfl, ⟨mo, Z, h.box _ (h.b.set 2 _) (fun i hi => Below.heap_setCell _ _ _ _ hi) (by simp) rfl h.ops⟩, setd_fr h⟩
end Go.Proofs.Ythegdhbmfojdaaa

namespace Go.Proofs.Ythegdhbmfojdaaa
open Go.RowKit Go.Maps

theorem cutAt_any (w : World) (d N : Nat) (F : Nat → Prop) (s : St) (a b : Int) (h : Dk w d F N s) : Calls Try.prog 16 #[.pointer (some ⟨d, 0, none⟩), .int .i64 a, .int .i64 b] w fun e w' => e = .returned (.tuple #[]) ∧ Dk w' d F N { s with set := true, op := a, part := b } ∧ Fr F w w' := by
  obtain ⟨mo, Z, h⟩ := h
  have c3 := h.b.cell 3 _ rfl
  have c4 := h.b.cell 4 _ rfl
  have c5 := h.b.cell 5 _ rfl
  have f3 := h.b.free 3
  have f4 := h.b.free 4
  have f5 := h.b.free 5
  have H : Hid _ := h
  clear h
  go_enter Try.func16, Try.ntmps16
  go_wp2_with fail
  go_end0
  have h := H.out
  have x3 := ((h.b.set 3 (.bool true)).set 4 (.int .i64 a)).set 5 (.int .i64 b)
  refine ⟨rfl, ⟨mo, Z, h.box _ x3 (fun i hi => ?_) (by simp) rfl h.ops⟩, ?_⟩
  · rw [Below.heap_setCell _ _ _ _ hi, Below.heap_setCell _ _ _ _ hi, Below.heap_setCell _ _ _ _ hi]
  · exact ((Fr.of_grown grown_setCell fun j hj => .inl (by cases hj; exact h.f)).trans (Fr.of_grown (F := F) grown_setCell fun j hj => .inl (by cases hj; exact h.f)) fun _ _ h => h).trans (Fr.of_grown (F := F) grown_setCell fun j hj => .inl (by cases hj; exact h.f)) fun _ _ h => h
theorem bytes_below (w : World) (e : TypeId) (s : ByteArray) : Below w.heap.size w (Lib.bytesWorld w e s) := ⟨rfl, rfl, rfl, by rw [Lib.bytesWorld_size]; omega, fun i hi => Lib.bytesWorld_at_old w e s i hi⟩
theorem isNm_no {t : Str} {i : Nat} (hi : i < t.length) (h : nmB (t.getD i 0) = false) : isNm t = false := by
  unfold isNm
  have : t.all nmB = false := by
    rw [List.all_eq_false]
    refine ⟨t[i], List.getElem_mem hi, ?_⟩
    rw [show t[i] = t.getD i 0 by simp [hi], h]
    simp
  rw [this, Bool.and_false]
theorem isNm_yes {t : Str} (h1 : ¬ t.length < 1) (h2 : ¬ 64 < t.length) (h : ∀ i, i < t.length → nmB (t.getD i 0) = true) : isNm t = true := by
  unfold isNm
  have : t.all nmB = true := by
    rw [List.all_eq_true]
    intro c hc
    obtain ⟨i, hi, rfl⟩ := List.getElem_of_mem hc
    have := h i hi
    rwa [show t.getD i 0 = t[i] by simp [hi]] at this
  rw [this]
  simp [h1, h2]
set_option maxHeartbeats 800000 in
theorem isName_any (w : World) (t : Str) (ht : t.length ≤ maxLen) : Calls Try.prog 84 #[.string ⟨t.toArray⟩] w fun e w' => e = .returned (.bool (isNm t)) ∧ Below w.heap.size w w' := by
  unfold maxLen at ht
  have hsz := str_size t
  by_cases h1 : t.length < 1
  · have h1z : (t.length : Int) < 1 := by omega
    have HE : Hid (isNm t = false) := by apply hide; unfold isNm; simp [h1]
    go_enter Try.func84, Try.ntmps84
    go_wp2_with fail
    go_ret
    exact ⟨by rw [HE.out]; rfl, Below.refl _ _⟩
  have h1z : ¬ (t.length : Int) < 1 := by omega
  by_cases h2 : 64 < t.length
  · have h2z : (64 : Int) < (t.length : Int) := by omega
    have HE : Hid (isNm t = false) := by apply hide; unfold isNm; simp [h2]
    go_enter Try.func84, Try.ntmps84
    go_wp2_with fail
    go_ret
    exact ⟨by rw [HE.out]; rfl, Below.refl _ _⟩
  have h2z : ¬ (64 : Int) < (t.length : Int) := by omega
  have hcv := Lib.run_convert_string_bytes (P := Try.prog) w 9 33 5 ⟨t.toArray⟩ Try.underlying9 Try.underlying33 Try.underlying5
  rw [hsz] at hcv
  have hcell : ∀ j, j < t.length → (Lib.bytesWorld w 5 ⟨t.toArray⟩).cell? ⟨w.heap.size, j, none⟩ = some (.int .u8 ((t.getD j 0).toNat : Int)) := fun j hj => by
    have := Lib.bytesWorld_cell w 5 ⟨t.toArray⟩ j (by rw [hsz]; exact hj)
    simpa using this
  obtain ⟨W, hW⟩ : ∃ W, W = Lib.bytesWorld w 5 ⟨t.toArray⟩ := ⟨_, rfl⟩
  have HB : Hid (Below w.heap.size w W) := by apply hide; rw [hW]; exact bytes_below _ _ _
  rw [← hW] at hcv hcell
  obtain ⟨cp, hcp⟩ : ∃ cp, cp = grownCap w t.length 0 5 := ⟨_, rfl⟩
  rw [← hcp] at hcv
  have HC : Aside (∀ j, j < t.length → W.cell? ⟨w.heap.size, j, none⟩ = some (.int .u8 ((t.getD j 0).toNat : Int))) := hcell
  clear hcell hW hcp
  go_enter Try.func84, Try.ntmps84
  go_wp2_with fail
  go_loop [16] (fun i => ∃ k : Nat, k ≤ t.length ∧ i = .int .i64 k ∧ Hid (∀ i, i < k → nmB (t.getD i 0) = true)) (fun i => t.length - (intOf i).toNat)
  case atStart => exact ⟨0, by omega, rfl, fun i hi => by omega⟩
  case round =>
    obtain ⟨k, hk, rfl, HA⟩ := hrel
    by_cases hlt : k < t.length
    · have hltz : (k : Int) < (t.length : Int) := by omega
      have hck := HC.out k hlt
      obtain ⟨z, hz⟩ : ∃ z : Nat, z = (t.getD k 0).toNat := ⟨_, rfl⟩
      rw [← hz] at hck
      have HZ : Hid (z = (t.getD k 0).toNat) := hz
      have hz8 : z < 256 := by rw [hz]; exact (t.getD k 0).toNat_lt
      clear hz
      by_cases ha : z < 33
      · have haz : (z : Int) < 33 := by omega
        go_wp2_with fail
        go_ret
        exact ⟨by rw [isNm_no hlt (by unfold nmB; rw [← HZ.out]; simp [ha])]; rfl, HB.out⟩
      · have haz : ¬ (z : Int) < 33 := by omega
        by_cases hb : 126 < z
        · have hbz : (126 : Int) < (z : Int) := by omega
          go_wp2_with fail
          go_ret
          exact ⟨by rw [isNm_no hlt (by unfold nmB; rw [← HZ.out]; simp [hb])]; rfl, HB.out⟩
        · have hbz : ¬ (126 : Int) < (z : Int) := by omega
          go_wp2_with fail
          go_round
          case rel =>
            refine ⟨k + 1, by omega, by go_num, fun i hi => ?_⟩
            by_cases hik : i = k
            · subst hik; unfold nmB; rw [← HZ.out]; simp [ha, hb]
            · exact HA.out i (by omega)
          case measure => simp [intOf]; omega
    · have hltz : ¬ (k : Int) < (t.length : Int) := by omega
      obtain rfl : k = t.length := by omega
      go_wp2_with fail
      go_ret
      exact ⟨by rw [isNm_yes h1 h2 HA.out]; rfl, HB.out⟩
theorem has_any (w : World) (d N : Nat) (F : Nat → Prop) (s : St) (t : Str) (h : Dk w d F N s) (ht : t.length ≤ maxLen) : Calls Try.prog 54 #[.pointer (some ⟨d, 0, none⟩), .string ⟨t.toArray⟩] w fun e w' => e = .returned (.bool (hasF s.fs t)) ∧ w' = w := by
  obtain ⟨mo, Z, h⟩ := h
  have c0 := h.b.cell 0 _ rfl
  obtain ⟨v, hl⟩ := look_ok h.m t ht
  rw [← h.has t] at hl
  clear h
  go_enter Try.func54, Try.ntmps54
  go_wp2_with fail
  go_ret
  exact ⟨rfl, rfl⟩
end Go.Proofs.Ythegdhbmfojdaaa

namespace Go.Proofs.Ythegdhbmfojdaaa
open Go.RowKit Go.Maps

theorem all_no {ns : List Str} {i : Nat} (hi : i < ns.length) (h : isNm (ns.getD i []) = false) : ns.all isNm = false := by
  rw [List.all_eq_false]
  refine ⟨ns[i], List.getElem_mem hi, ?_⟩
  rw [show ns[i] = ns.getD i [] by simp [hi], h]
  simp
theorem all_yes {ns : List Str} (h : ∀ i, i < ns.length → isNm (ns.getD i []) = true) : ns.all isNm = true := by
  rw [List.all_eq_true]
  intro c hc
  obtain ⟨i, hi, rfl⟩ := List.getElem_of_mem hc
  have := h i hi
  rwa [show ns.getD i [] = ns[i] by simp [hi]] at this
set_option maxHeartbeats 800000 in
theorem refuses_any (w : World) (d N : Nat) (F : Nat → Prop) (s : St) (v : Value) (ns : List Str) (h : Dk w d F N s) (hv : Rds w v (sv ns)) (hl : ∀ t ∈ ns, t.length ≤ maxLen) :
    Calls Try.prog 53 #[.pointer (some ⟨d, 0, none⟩), v] w fun e w' => e = .returned (.int .i64 (rfC s ns : Nat)) ∧ Below w.heap.size w w' := by
  obtain ⟨mo, Z, hz⟩ := h
  have c2 := hz.b.cell 2 _ rfl
  have HR : Hid (Rds w v (sv ns)) := hv
  obtain ⟨ao, n, cap, rfl⟩ : ∃ ao n cap, v = .slice ao n cap := by obtain ⟨ao, cap, rfl, _⟩ := hv; exact ⟨_, _, _, rfl⟩
  obtain ⟨rfl, h1, h2, h3⟩ := hv.cells
  simp only [sv_length] at *
  have HL : Hid _ := hl
  obtain ⟨mo, ho⟩ : ∃ o, o = s.off := ⟨_, rfl⟩
  rw [← ho] at c2
  have HO : Hid (mo = s.off) := ho
  clear hz hv ho hl
  cases mo
  case true =>
    go_enter Try.func53, Try.ntmps53
    go_wp2_with fail
    go_ret
    exact ⟨by unfold rfC; rw [← HO.out]; rfl, Below.refl _ _⟩
  case false =>
    have HC : Hid (rfC s ns = if ns.all isNm then 0 else 1) := by apply hide; unfold rfC; rw [← HO.out]; simp
    have hnz : ns.length ≤ 2 ^ 63 - 1 := Nat.le_trans h1 (by unfold maxLen at h2; exact h2)
    go_enter Try.func53, Try.ntmps53
    go_wp2_with fail
    go_loopg [15] ns.length (fun kx v15 wr => ∃ i : Nat, v15 = .int .i64 (i : Int) ∧ i ≤ ns.length ∧ ns.length - i ≤ kx ∧ Hid (Below w.heap.size w wr) ∧ Hid (∀ j, j < i → isNm (ns.getD j []) = true))
    case atStart => exact ⟨0, rfl, by omega, Nat.le_refl _, Below.refl _ _, fun j hj => by omega⟩
    case round =>
      obtain ⟨i, rfl, hi, hkx, HB, HA⟩ := hrel
      by_cases hlt : i < ns.length
      · have hltz : (i : Int) < (ns.length : Int) := by omega
        obtain ⟨b, off, rfl, hc⟩ := h3 (by omega)
        have hci : wr.cell? ⟨b, off + i, none⟩ = some (.string ⟨(ns.getD i []).toArray⟩) := by
          have := hc i _ (sv_get ns i hlt)
          rw [HB.out.cell (World.block_lt_of_cell? _ _ this)]
          exact this
        have kN := isName_any wr (ns.getD i []) (HL.out _ (by rw [show ns.getD i [] = ns[i] by simp [hlt]]; exact List.getElem_mem hlt))
        obtain ⟨t, ht⟩ : ∃ t, t = ns.getD i [] := ⟨_, rfl⟩
        rw [← ht] at hci kN
        have HT : Hid (t = ns.getD i []) := ht
        clear hc ht
        go_wp2_with fail
        refine kN.mono ?_
        rintro e w1 ⟨rfl, b1⟩
        have HB1 : Hid (Below w.heap.size w w1) := HB.out.trans (b1.mono HB.out.size)
        obtain ⟨q, hq⟩ : ∃ q, q = isNm t := ⟨_, rfl⟩
        rw [← hq]
        have HQ : Hid (q = isNm t) := hq
        clear b1 kN hci hq
        cases q
        case false =>
          go_wp2_with fail
          go_ret
          exact ⟨by rw [HC.out, all_no hlt (by rw [← HT.out, ← HQ.out])]; rfl, HB1.out⟩
        case true =>
          go_wp2_with fail
          go_roundg (ns.length - (i + 1))
          case measure => omega
          case rel =>
            refine ⟨i + 1, by go_num, by omega, Nat.le_refl _, HB1, fun j hj => ?_⟩
            by_cases hji : j = i
            · subst hji; rw [← HT.out, ← HQ.out]
            · exact HA.out j (by omega)
      · have hltz : ¬ (i : Int) < (ns.length : Int) := by omega
        obtain rfl : i = ns.length := by omega
        go_wp2_with fail
        go_ret
        exact ⟨by rw [HC.out, all_yes HA.out]; rfl, HB.out⟩
theorem own_rds {base : Nat} {w : World} {v : Value} {ns : List Str} (h : w.ownsRow base 9 1 v ns.length (sv ns)) : Rds w v (sv ns) := by
  have : Own w base 9 v (sv ns) := by unfold Own; rw [sv_length]; exact h
  exact this.rds
set_option maxHeartbeats 800000 in
theorem refusesFile_any (w : World) (d N base : Nat) (F : Nat → Prop) (s : St) (t : Str) (v : Value) (ns : List Str) (h : Dk w d F N s) (hv : w.ownsRow base 9 1 v ns.length (sv ns)) (hb : base ≤ w.heap.size) (hF : ∀ r, v.ownBlock = some r → ¬ F r) (hn : ns.length ≤ 10) (hl : ∀ t ∈ ns, t.length ≤ maxLen) (ht : t.length ≤ maxLen) :
    Calls Try.prog 51 #[.pointer (some ⟨d, 0, none⟩), .string ⟨t.toArray⟩, v] w fun e w' => e = .returned (.int .i64 (rfF s t ns : Nat)) ∧ w.grownBy w' v.ownBlock := by
  obtain ⟨i0, hi0, hz0, hz1, hz2⟩ := info_parts Try.info_str
  have HV : Hid _ := hv
  have HD : Hid _ := h
  have HFF : Hid _ := hF
  have HL : Hid (∀ x ∈ ns ++ [t], x.length ≤ maxLen) := fun x hx => by
    rcases List.mem_append.1 hx with hx | hx
    · exact hl x hx
    · simp at hx; subst hx; exact ht
  have lo := lit_own w [.string ⟨t.toArray⟩] 9 (by simp [maxLen])
  have HLO : Hid (RdsK 1 (w.alloc (.cells #[.string ⟨t.toArray⟩] 9)) (.slice (some ⟨w.heap.size, 0, none⟩) 1 1) 1 [.string ⟨t.toArray⟩]) := RdsK.of_own lo
  have HVO : Hid ((w.alloc (.cells #[.string ⟨t.toArray⟩] 9)).ownsRow base 9 1 v ns.length (sv ns)) := World.ownsRow.alloc hv _
  have HHT : Hid _ := ht
  clear h hv hF lo hl ht
  go_enter Try.func51, Try.ntmps51
  go_wp2_with (first | (at_builtin; refine wpList_appF rfl _ _ 42 rfl base 9 i0 (.string ⟨#[]⟩) 1 16 Try.underlying42 hi0 hz0 hz1 hz2 rfl (by decide) v ns.length (sv ns) rfl HVO.out (.slice (some ⟨w.heap.size, 0, none⟩) 1 1) 1 [.string ⟨t.toArray⟩] rfl HLO.out (fun u hu => by simp at hu; subst hu; rfl) (by unfold maxLen; omega) (by omega) (Nat.le_trans hb (by simp)) ?_; intro v1 w1 o1 g1 _; have HO1 : Hid (w1.ownsRow base 9 1 v1 (ns.length + 1) (sv ns ++ [.string ⟨t.toArray⟩])) := o1; have HG1 : Hid (w.grownBy w1 v.ownBlock) := grown_trans (grown_alloc _ _ _) g1; clear o1 g1))
  have hd1 : Dk w1 d F N s := by
    obtain ⟨mo, Z, hz⟩ := HD.out
    exact ⟨mo, Z, hz.frame HG1.out.size fun i hi => HG1.out.block i (hz.lt i hi) fun e => HFF.out i e.symm hi⟩
  have hr1 : Rds w1 v1 (sv (ns ++ [t])) := own_rds (base := base) (by have := HO1.out; rw [sv_append, List.length_append]; exact this)
  have kR := refuses_any w1 d N F s v1 (ns ++ [t]) hd1 hr1 HL.out
  have HD1 : Hid _ := hd1
  obtain ⟨va, vc, rfl⟩ := own_sl HO1.out
  clear hd1 hr1
  go_wp2_with fail
  refine kR.mono ?_
  rintro e w2 ⟨rfl, b2⟩
  have HG2 : Hid (w.grownBy w2 v.ownBlock) := grown_trans HG1.out ⟨b2.os, b2.tape, b2.output, b2.size, fun i hi _ => b2.block i hi⟩
  have kH := has_any w2 d N F s t (HD1.out.below b2) HHT.out
  obtain ⟨c, hc⟩ : ∃ c, c = rfC s (ns ++ [t]) := ⟨_, rfl⟩
  rw [← hc]
  have HC : Hid (c = rfC s (ns ++ [t])) := hc
  clear b2 kR hc
  by_cases h0 : c = 0
  · subst h0
    go_wp2_with fail
    refine kH.mono ?_
    rintro e w3 ⟨rfl, rfl⟩
    obtain ⟨q, hq⟩ : ∃ q, q = hasF s.fs t := ⟨_, rfl⟩
    rw [← hq]
    have HQ : Hid (q = hasF s.fs t) := hq
    clear kH hq
    cases q
    case false =>
      go_wp2_with fail
      go_ret
      exact ⟨by unfold rfF; rw [← HC.out, ← HQ.out]; rfl, HG2.out⟩
    case true =>
      go_wp2_with fail
      go_ret
      exact ⟨by unfold rfF; rw [← HC.out, ← HQ.out]; rfl, HG2.out⟩
  · have h0z : ¬ (c : Int) = 0 := by omega
    have hE2 : ((c : Int) == 0) = false := by simpa using h0
    have hE3 : ((c : Int) != 0) = true := by simp [bne, hE2]
    go_wp2_with fail
    go_ret
    exact ⟨by unfold rfF; rw [← HC.out, if_pos h0]; rfl, HG2.out⟩
end Go.Proofs.Ythegdhbmfojdaaa
