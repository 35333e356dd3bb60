/- Contracts of the reference's Check and Size. -/
import Derived.Test.YtlfkhinmncbkcaaRWalk
namespace Go.Proofs.Ytlfkhinmncbkcaa
open Go.RowKit Go.Sort

theorem wk_may (D M : Int) (t : Tr) : decide (wk true D M 1 200 t < 0) = !t.may D M := by
  unfold wk gd Tr.may
  simp only [Bool.not_true, Bool.false_or]
  by_cases h1 : t.sz ≤ 200
  · by_cases h2 : t.dp ≤ 20
    · rw [decide_eq_true h1, decide_eq_true h2, decide_eq_true (p := 1 + t.dp ≤ 21) (by omega)]
      cases t.fitA D M with
      | true => rw [if_pos ⟨rfl, h1⟩]; exact decide_eq_false (by omega)
      | false => rw [if_neg fun h => by simp at h]; rfl
    · rw [decide_eq_true h1, decide_eq_false h2, decide_eq_false (p := 1 + t.dp ≤ 21) (by omega)]
      rw [if_neg fun h => by simp at h]
      simp
  · rw [decide_eq_false h1, if_neg fun h => h1 h.2]
    simp
theorem wk_size (D M : Int) (t : Tr) : 200 - wk false D M 1 200 t = ((min 201 t.sz : Nat) : Int) := by
  unfold wk gd
  simp only [Bool.not_false, Bool.true_or, true_and]
  split
  · omega
  · omega
theorem not_of_true {b c : Bool} (h : b = !c) (hb : b = true) : c = false := by cases c <;> simp_all
theorem not_of_false {b c : Bool} (h : b = !c) (hb : b = false) : c = true := by cases c <;> simp_all
theorem wk_range (ask : Bool) (D M : Int) (dep left : Nat) (t : Tr) : -1 ≤ wk ask D M dep left t ∧ wk ask D M dep left t ≤ left := by
  unfold wk
  split <;> omega

set_option maxHeartbeats 1600000 in
theorem refcheck_any (w : World) (D M : Int) (t : Tr) (h : t.Ok w) :
    Calls Try.prog 11 #[.agg #[.int .i64 D, .int .i64 M], .agg #[.int .i64 t.k, .int .i64 t.d, t.tv, .int .i64 t.lo, .int .i64 t.hi, t.kv]] w fun e w' => e = .returned (.int .i64 (errB (t.may D M))) ∧ Grows w w' := by
  obtain ⟨at', nt, ct, ak, nk, ck, e1, e2, -, -, -, -⟩ := h.lens
  obtain ⟨W, hW⟩ : ∃ W, W = (w.alloc (.cells #[.int .i64 D, .int .i64 M] 23)).alloc (.cells #[.int .i64 t.k, .int .i64 t.d, t.tv, .int .i64 t.lo, .int .i64 t.hi, t.kv] 27) := ⟨_, rfl⟩
  have gW : Grows w W := by rw [hW]; exact (Grows.alloc _ _).trans (Grows.alloc _ _)
  have kW := walk_any true D M _ t (Nat.lt_succ_self _) W 1 200 (h.up gW.below) (by omega)
  rw [show ((1 : Nat) : Int) = 1 from rfl, show ((200 : Nat) : Int) = 200 from rfl] at kW
  have hm := wk_may D M t
  obtain ⟨R, hR⟩ : ∃ R, R = wk true D M 1 200 t := ⟨_, rfl⟩
  rw [← hR] at kW hm
  have HM : Hid (decide (R < 0) = !t.may D M) := hm
  have HG : Hid (Grows w W) := gW
  have HW : Hid _ := hW
  rw [hW, e1, e2] at kW
  rw [e1, e2] at HW ⊢
  clear h gW hW e1 e2 hm hR
  go_enter Try.func11, Try.ntmps11
  go_wp2_with fail
  refine kW.mono ?_
  rintro e w5 ⟨rfl, g5⟩
  rw [← HW.out] at g5
  by_cases hr : R < 0
  · have hd : decide (R < 0) = true := decide_eq_true hr
    have HB : Hid (t.may D M = false) := not_of_true HM.out hd
    go_wp2_with fail
    go_ret
    exact ⟨by rw [HB.out]; rfl, HG.out.trans g5⟩
  · have hd : decide (R < 0) = false := decide_eq_false hr
    have HB : Hid (t.may D M = true) := not_of_false HM.out hd
    go_wp2_with fail
    go_ret
    exact ⟨by rw [HB.out]; rfl, HG.out.trans g5⟩
set_option maxHeartbeats 1600000 in
theorem refsize_any (w : World) (t : Tr) (h : t.Ok w) :
    Calls Try.prog 13 #[.agg #[.int .i64 t.k, .int .i64 t.d, t.tv, .int .i64 t.lo, .int .i64 t.hi, t.kv]] w fun e w' => e = .returned (.int .i64 ((min 201 t.sz : Nat) : Int)) ∧ Grows w w' := by
  obtain ⟨at', nt, ct, ak, nk, ck, e1, e2, -, -, -, -⟩ := h.lens
  obtain ⟨W, hW⟩ : ∃ W, W = w.alloc (.cells #[.int .i64 t.k, .int .i64 t.d, t.tv, .int .i64 t.lo, .int .i64 t.hi, t.kv] 27) := ⟨_, rfl⟩
  have gW : Grows w W := by rw [hW]; exact Grows.alloc _ _
  have kW := walk_any false 0 0 _ t (Nat.lt_succ_self _) W 1 200 (h.up gW.below) (by omega)
  rw [show ((1 : Nat) : Int) = 1 from rfl, show ((200 : Nat) : Int) = 200 from rfl] at kW
  have hm := wk_size 0 0 t
  have hrg := wk_range false 0 0 1 200 t
  obtain ⟨R, hR⟩ : ∃ R, R = wk false 0 0 1 200 t := ⟨_, rfl⟩
  rw [← hR] at kW hm hrg
  obtain ⟨S, hS⟩ : ∃ S, S = min 201 t.sz := ⟨_, rfl⟩
  rw [← hS] at hm ⊢
  have hS2 : S ≤ 201 := by omega
  have HG : Hid (Grows w W) := gW
  have HW : Hid _ := hW
  rw [hW, e1, e2] at kW
  rw [e1, e2] at HW ⊢
  clear h gW hW e1 e2 hR hS hrg
  go_enter Try.func13, Try.ntmps13
  go_wp2_with fail
  refine kW.mono ?_
  rintro e w5 ⟨rfl, g5⟩
  rw [← HW.out] at g5
  go_wp2_with fail
  go_ret
  exact ⟨rfl, HG.out.trans g5⟩
end Go.Proofs.Ytlfkhinmncbkcaa
