/- Contracts of own, Holds and schema. -/
import Derived.Test.YtlfkhinmncbkcaaEra
import Derived.Test.YtlfkhinmncbkcaaHold2
import Derived.Handy
namespace Go.Proofs.Ytlfkhinmncbkcaa
open Go.RowKit Go.Sort

set_option maxHeartbeats 4000000 in
theorem own_any (w : World) (t : Tr) (h : t.Ok w) :
    Calls Try.prog 39 #[.agg #[.int .i64 t.k, .int .i64 t.d, t.tv, .int .i64 t.lo, .int .i64 t.hi, t.kv]] w fun e w' => e = .returned (.agg #[.int .i64 t.own.k, .int .i64 t.own.d, t.own.tv, .int .i64 t.own.lo, .int .i64 t.own.hi, t.own.kv]) ∧ Grows w w' := by
  obtain ⟨at', nt, ct, ak, nk, ck, e1, e2, -, -, -, -⟩ := h.lens
  have hv : t.own = if t.k = 5 ∨ t.k = 6 ∨ t.k = 7 then Tr.mk t.k t.d (.slice at' nt ct) t.ts 0 0 sn [] else if t.k = 8 then .mk t.k t.d sn [] t.lo t.hi sn [] else .mk t.k 0 sn [] 0 0 sn [] := by unfold Tr.own; rw [e1]
  rw [hv, e1, e2]
  clear hv e1 e2 h
  generalize t.k = k
  generalize t.d = d
  generalize t.lo = lo
  generalize t.hi = hi
  by_cases h5 : k = 5
  · rw [if_pos (.inl h5)]
    have c5 : (k == 5) = true := by simp [h5]
    clear h5
    go_enter Try.func39, Try.ntmps39
    go_wp2_with fail
    go_returns
    exact ⟨rfl, (Grows.alloc _ _).trans (Grows.alloc _ _)⟩
  · have c5 : (k == 5) = false := by simp [h5]
    by_cases h6 : k = 6
    · rw [if_pos (.inr (.inl h6))]
      have c6 : (k == 6) = true := by simp [h6]
      clear h5 h6
      go_enter Try.func39, Try.ntmps39
      go_wp2_with fail
      go_returns
      exact ⟨rfl, (Grows.alloc _ _).trans (Grows.alloc _ _)⟩
    · have c6 : (k == 6) = false := by simp [h6]
      by_cases h7 : k = 7
      · rw [if_pos (.inr (.inr h7))]
        have c7 : (k == 7) = true := by simp [h7]
        clear h5 h6 h7
        go_enter Try.func39, Try.ntmps39
        go_wp2_with fail
        go_returns
        exact ⟨rfl, (Grows.alloc _ _).trans (Grows.alloc _ _)⟩
      · have c7 : (k == 7) = false := by simp [h7]
        rw [if_neg (fun h => h.elim h5 fun h => h.elim h6 h7)]
        by_cases h8 : k = 8
        · rw [if_pos h8]
          have c8 : (k == 8) = true := by simp [h8]
          clear h5 h6 h7 h8
          go_enter Try.func39, Try.ntmps39
          go_wp2_with fail
          go_returns
          exact ⟨rfl, (Grows.alloc _ _).trans (Grows.alloc _ _)⟩
        · rw [if_neg h8]
          have c8 : (k == 8) = false := by simp [h8]
          clear h5 h6 h7 h8
          go_enter Try.func39, Try.ntmps39
          go_wp2_with fail
          go_returns
          exact ⟨rfl, (Grows.alloc _ _).trans (Grows.alloc _ _)⟩

set_option maxHeartbeats 1600000 in
theorem schema_any (w : World) (X : Fc) (h : X.Ok w) :
    Calls Try.prog 14 #[.agg #[.int .i64 X.t, X.dv, X.mv]] w fun e w' => e = .returned (.agg #[.int .i64 (X.ds.length : Int), .int .i64 (X.ms.length : Int)]) ∧ Grows w w' := by
  obtain ⟨ad, nd, cd, am, nm, cm, f1, f2, hnd, hnm, -⟩ := h.lens
  rw [f1, f2, ← hnd, ← hnm]
  clear f1 f2 hnd hnm h
  go_enter Try.func14, Try.ntmps14
  go_wp2_with fail
  go_returns
  exact ⟨rfl, (Grows.alloc _ _).trans (Grows.alloc _ _)⟩

/-- What Holds answers. -/
def Tr.holdG (X : Fc) (t : Tr) : Bool := decide (t.sz ≤ 400) && t.hold X
set_option maxHeartbeats 1600000 in
theorem Holds_any (w : World) (X : Fc) (t : Tr) (h : t.Ok w) (hX : X.Ok w) :
    Calls Try.prog 15 #[.agg #[.int .i64 t.k, .int .i64 t.d, t.tv, .int .i64 t.lo, .int .i64 t.hi, t.kv], .agg #[.int .i64 X.t, X.dv, X.mv]] w fun e w' => e = .returned (.bool (t.holdG X)) ∧ Grows w w' := by
  obtain ⟨at', nt, ct, ak, nk, ck, e1, e2, -, -, -, -⟩ := h.lens
  obtain ⟨ad, nd, cd, am, nm, cm, f1, f2, -⟩ := hX.lens
  obtain ⟨W, hW⟩ : ∃ W, W = (w.alloc (.cells #[.int .i64 t.k, .int .i64 t.d, t.tv, .int .i64 t.lo, .int .i64 t.hi, t.kv] 27)).alloc (.cells #[.int .i64 X.t, X.dv, X.mv] 35) := ⟨_, rfl⟩
  have gW : Grows w W := by rw [hW]; exact (Grows.alloc _ _).trans (Grows.alloc _ _)
  have zW : W.heap.size = w.heap.size + 2 := by rw [hW]; simp
  have y : ∀ w5, Below W.heap.size W w5 → (∀ c u, (#[Value.int .i64 t.k, .int .i64 t.d, t.tv, .int .i64 t.lo, .int .i64 t.hi, t.kv])[c]? = some u → w5.cell? ⟨w.heap.size, c, none⟩ = some u) ∧ ∀ c u, (#[Value.int .i64 X.t, X.dv, X.mv])[c]? = some u → w5.cell? ⟨w.heap.size + 1, c, none⟩ = some u := fun w5 h5 => by
    refine ⟨fun c u hc => ?_, fun c u hc => ?_⟩
    · rw [h5.cell (by rw [zW]; show w.heap.size < _; omega), hW]
      refine cell_alloc_sl _ ?_
      simpa using hc
    · rw [h5.cell (by rw [zW]; show w.heap.size + 1 < _; omega), hW]
      have hs : w.heap.size + 1 = (w.alloc (.cells #[.int .i64 t.k, .int .i64 t.d, t.tv, .int .i64 t.lo, .int .i64 t.hi, t.kv] 27)).heap.size := by simp
      rw [hs]
      simpa using hc
  have kG := great_any W t (h.up gW.below)
  have HY : Aside _ := y
  have HO : Hid (t.Ok W ∧ X.Ok W) := ⟨h.up gW.below, hX.up gW.below⟩
  have HE : Hid ((t.tv = .slice at' nt ct ∧ t.kv = .slice ak nk ck) ∧ X.dv = .slice ad nd cd ∧ X.mv = .slice am nm cm) := ⟨⟨e1, e2⟩, f1, f2⟩
  have HG : Hid (Grows w W) := gW
  have HW : Hid _ := hW
  rw [hW, e1, e2, f1, f2] at kG
  rw [e1, e2, f1, f2] at HW ⊢
  clear h hX gW zW hW y e1 e2 f1 f2
  by_cases hs : 400 < t.sz
  · have HR : Hid (t.holdG X = false) := by show _ = _; unfold Tr.holdG; rw [decide_eq_false (by omega)]; rfl
    rw [decide_eq_true hs] at kG
    clear hs
    go_enter Try.func15, Try.ntmps15
    go_wp2_with fail
    refine kG.mono ?_
    rintro e w5 ⟨rfl, g5⟩
    rw [← HW.out] at g5
    go_wp2_with fail
    go_ret
    exact ⟨by rw [HR.out]; rfl, HG.out.trans g5⟩
  · have HR : Hid (t.holdG X = t.hold X) := by show _ = _; unfold Tr.holdG; rw [decide_eq_true (by omega)]; simp
    rw [decide_eq_false hs] at kG
    clear hs
    go_enter Try.func15, Try.ntmps15
    go_wp2_with fail
    refine kG.mono ?_
    rintro e w5 ⟨rfl, g5⟩
    rw [← HW.out] at g5
    obtain ⟨y, z⟩ := HY.out w5 g5.below
    have y0 := y 0 _ rfl
    have y1 := y 1 _ rfl
    have y2 := y 2 _ rfl
    have y3 := y 3 _ rfl
    have y4 := y 4 _ rfl
    have y5 := y 5 _ rfl
    have z0 := z 0 _ rfl
    have z1 := z 1 _ rfl
    have z2 := z 2 _ rfl
    have kH := holds_any X _ t (Nat.lt_succ_self _) w5 (HO.out.1.up g5.below) (HO.out.2.up g5.below)
    rw [HE.out.1.1, HE.out.1.2, HE.out.2.1, HE.out.2.2] at kH
    rw [HE.out.1.1] at y2
    rw [HE.out.1.2] at y5
    rw [HE.out.2.1] at z1
    rw [HE.out.2.2] at z2
    have HG5 : Hid (Grows W w5) := g5
    generalize t.hold X = r at *
    clear y z g5 kG
    go_wp2_with fail
    refine kH.mono ?_
    rintro e w6 ⟨rfl, g6⟩
    go_wp2_with fail
    go_ret
    exact ⟨by rw [HR.out]; simp, HG.out.trans (HG5.out.trans g6)⟩
end Go.Proofs.Ytlfkhinmncbkcaa
