/- Contracts: whether a set is complete; complete$1, keys, complete. -/
import Derived.Test.YtgbmigfamefenaaTlz
namespace Go.Proofs.Ytgbmigfamefenaa
open Go.RowKit Go.Maps Go.Sort
set_option linter.unusedVariables false

/-- A set is complete, as the program asks it. -/
def cmpl (core : Int) (ps : List Int) : Bool := decide (core = 0) || (decide (core ≤ ps.length) && decide (ps.getD (core - 1).toNat 0 = core - 1))
set_option maxRecDepth 100000 in
set_option maxHeartbeats 1600000 in
theorem compl_any (w : World) (v : Value) (core : Int) (ps : List Int) (h : Rds w v (iv ps)) (hc : 0 ≤ core) : Calls Try.prog 47 #[.agg #[.int .i64 core, v]] w fun e w' => e = .returned (.bool (cmpl core ps)) ∧ Grows w w' := by
  have mixed : Try.prog.follows .mixedOrders = true := by kernel_rfl
  obtain ⟨ao, cap, hv, -⟩ := id h
  subst hv
  obtain ⟨-, h1, h2, h4⟩ := h.cells
  rw [iv_length] at h1 h4
  rw [iv_length]
  obtain ⟨n, hn⟩ : ∃ n, n = ps.length := ⟨_, rfl⟩
  have HN : Hid (n = ps.length) := hn
  rw [← hn] at h1
  rw [← hn]
  have HE : Hid (cmpl core ps = (decide (core = 0) || (decide (core ≤ (n : Int)) && decide (ps.getD (core - 1).toNat 0 = core - 1)))) := by apply hide; rw [hn]; rfl
  obtain ⟨W, hW⟩ : ∃ W, W = w.alloc (.cells #[.int .i64 core, .slice ao n cap] 67) := ⟨_, rfl⟩
  have HG : Hid (Grows w W) := by apply hide; rw [hW]; exact Grows.alloc _ _
  have hx : BxA W w.heap.size 67 #[.int .i64 core, .slice ao n cap] := by rw [hW]; exact BxA.new _ _ _
  have x0 := fun nq os => gro_cell (hx.cell 0 _ rfl) nq os
  have x1 := fun nq os => gro_cell (hx.cell 1 _ rfl) nq os
  have HW : Hid (W = w.alloc (.cells #[.int .i64 core, .slice ao n cap] 67)) := hW
  unfold maxLen at h2
  by_cases c0 : core = 0
  · subst c0
    have HR : Hid (cmpl 0 ps = true) := by apply hide; rw [HE.out]; rfl
    clear hW hx h4 h hn
    go_enter Try.func47, Try.ntmps47
    go_upto_region 1 with fail
    rw [← HW.out]
    refine wp_region_quiet_grown (by assumption) (by kernel_rfl) ?_
    repeat (go_big_quiet_step (fail))
    refine wpQuiet_nil ?_
    intro V hw'
    obtain ⟨⟨nq, osq⟩, hw''⟩ := hw'
    have HGV : Hid (Grows w V) := by apply hide; rw [hw'']; exact HG.out.trans ⟨nq, osq, rfl⟩
    clear hw'' x0 x1
    go_wp2_with fail
    go_ret
    rw [HR.out]
    exact ⟨rfl, HGV.out⟩
  · have c0z : decide (core = 0) = false := decide_eq_false c0
    have c0y : (core == 0) = false := by simpa using c0
    by_cases c1 : core ≤ (n : Int)
    · have c1z : decide (core ≤ (n : Int)) = true := decide_eq_true c1
      obtain ⟨i, hi⟩ : ∃ i : Nat, core = (i : Int) + 1 := ⟨(core - 1).toNat, by omega⟩
      have hil : i < ps.length := by have := HN.out; omega
      obtain ⟨b, off, rfl, h5⟩ := h4 (by omega)
      have hc4 := h5 i _ (iv_get ps i hil)
      have hcW : W.cell? ⟨b, off + i, none⟩ = some (.int .i64 (ps.getD i 0)) := by
        rw [HG.out.below.cell (World.block_lt_of_cell? _ _ hc4)]; exact hc4
      have x2 := fun nq os => gro_cell hcW nq os
      obtain ⟨p, hp⟩ : ∃ p, p = ps.getD i 0 := ⟨_, rfl⟩
      rw [← hp] at x2
      have HR : Hid (cmpl core ps = decide (p = (i : Int))) := by
        apply hide
        rw [HE.out, c0z, c1z, Bool.false_or, Bool.true_and]
        have e1 : (core - 1).toNat = i := by omega
        have e2 : core - 1 = (i : Int) := by omega
        rw [e1, e2, ← hp]
      have hw1 : wrap64 (core - 1) = (i : Int) := by rw [← IntWalk.i64_left, IntKind.wrap_i64]; omega
      have hw2 : IntKind.i64.wrap (core - 1) = (i : Int) := by rw [IntKind.wrap_i64]; omega
      have hil2 : (i : Int) < (n : Int) := by omega
      have hi0 : (0 : Int) ≤ (i : Int) := by omega
      clear hW hx h4 h h5 hn hc4 hcW hp hi hil c1
      go_enter Try.func47, Try.ntmps47
      go_upto_region 1 with fail
      rw [← HW.out]
      refine wp_region_quiet_grown (by assumption) (by kernel_rfl) ?_
      repeat (go_big_quiet_step (fail))
      refine wpQuiet_nil ?_
      intro V hw'
      obtain ⟨⟨nq, osq⟩, hw''⟩ := hw'
      have HGV : Hid (Grows w V) := by apply hide; rw [hw'']; exact HG.out.trans ⟨nq, osq, rfl⟩
      clear hw'' x0 x1 x2
      go_wp2_with fail
      go_ret
      rw [HR.out]
      exact ⟨rfl, HGV.out⟩
    · have c1z : decide (core ≤ (n : Int)) = false := decide_eq_false c1
      have HR : Hid (cmpl core ps = false) := by apply hide; rw [HE.out, c0z, c1z]; rfl
      clear hW hx h4 h hn
      go_enter Try.func47, Try.ntmps47
      go_upto_region 1 with fail
      rw [← HW.out]
      refine wp_region_quiet_grown (by assumption) (by kernel_rfl) ?_
      repeat (go_big_quiet_step (fail))
      refine wpQuiet_nil ?_
      intro V hw'
      obtain ⟨⟨nq, osq⟩, hw''⟩ := hw'
      have HGV : Hid (Grows w V) := by apply hide; rw [hw'']; exact HG.out.trans ⟨nq, osq, rfl⟩
      clear hw'' x0 x1
      go_wp2_with fail
      go_ret
      rw [HR.out]
      exact ⟨rfl, HGV.out⟩
end Go.Proofs.Ytgbmigfamefenaa
