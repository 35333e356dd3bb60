/- Contracts of the orders: asTheyStand, goesAhead; of a set: complete. -/
import Derived.Test.YtgbmigfamefenaaFs0
import Derived.Test.YtgbmigfamefenaaPreB
namespace Go.Proofs.Ytgbmigfamefenaa
open Go.RowKit Go.Sort
set_option linter.unusedVariables false

def cmpK (a b : K3) : Int := or3 (ci a.1 b.1) (ci a.2.1 b.2.1) (ci a.2.2 b.2.2)
set_option maxRecDepth 100000 in
set_option maxHeartbeats 3200000 in
theorem stand_any (w : World) (a b : K3) : Calls Try.prog 36 #[kv a, kv b] w fun e w' => e = .returned (.int .i64 (cmpK a b)) ∧ Grows w w' := by
  have mixed : Try.prog.follows .mixedOrders = true := by kernel_rfl
  obtain ⟨a1, a2, a3⟩ := a
  obtain ⟨b1, b2, b3⟩ := b
  unfold kv cmpK
  simp only
  obtain ⟨W, hW⟩ : ∃ W, W = (w.alloc (.cells #[.int .i64 a1, .int .i64 a2, .int .i64 a3] 55)).alloc (.cells #[.int .i64 b1, .int .i64 b2, .int .i64 b3] 55) := ⟨_, rfl⟩
  have HG : Hid (Grows w W) := by apply hide; rw [hW]; exact (Grows.alloc _ _).trans (Grows.alloc _ _)
  have hs : (w.alloc (.cells #[.int .i64 a1, .int .i64 a2, .int .i64 a3] 55)).heap.size = w.heap.size + 1 := by simp
  have hx : BxA W w.heap.size 55 #[.int .i64 a1, .int .i64 a2, .int .i64 a3] := by
    rw [hW]
    unfold BxA
    rw [Below.heap_alloc _ _ _ (by rw [hs]; omega)]
    exact BxA.new _ _ _
  have hy : BxA W (w.heap.size + 1) 55 #[.int .i64 b1, .int .i64 b2, .int .i64 b3] := by
    rw [hW, ← hs]
    exact BxA.new _ _ _
  have x0 := fun nq os => gro_cell (hx.cell 0 _ rfl) nq os
  have x1 := fun nq os => gro_cell (hx.cell 1 _ rfl) nq os
  have x2 := fun nq os => gro_cell (hx.cell 2 _ rfl) nq os
  have y0 := fun nq os => gro_cell (hy.cell 0 _ rfl) nq os
  have y1 := fun nq os => gro_cell (hy.cell 1 _ rfl) nq os
  have y2 := fun nq os => gro_cell (hy.cell 2 _ rfl) nq os
  have HW : Hid (W = (w.alloc (.cells #[.int .i64 a1, .int .i64 a2, .int .i64 a3] 55)).alloc (.cells #[.int .i64 b1, .int .i64 b2, .int .i64 b3] 55)) := hW
  have k1 : ∀ nq os, _ := fun nq os => grown_at (w := W) (fun w' => (cmp_any w' a1 b1).mono fun _ _ ⟨h1, h2⟩ => ⟨h1, h2 ▸ Grows.refl _⟩) nq os
  have k2 : ∀ nq os, _ := fun nq os => grown_at (w := W) (fun w' => (cmp_any w' a2 b2).mono fun _ _ ⟨h1, h2⟩ => ⟨h1, h2 ▸ Grows.refl _⟩) nq os
  have k3 : ∀ nq os, _ := fun nq os => grown_at (w := W) (fun w' => (cmpi_any w' a3 b3).mono fun _ _ ⟨h1, h2⟩ => ⟨h1, h2 ▸ Grows.refl _⟩) nq os
  obtain ⟨c1, hc1⟩ : ∃ c, c = ci a1 b1 := ⟨_, rfl⟩
  obtain ⟨c2, hc2⟩ : ∃ c, c = ci a2 b2 := ⟨_, rfl⟩
  obtain ⟨c3, hc3⟩ : ∃ c, c = ci a3 b3 := ⟨_, rfl⟩
  simp only [← hc1, ← hc2, ← hc3] at k1 k2 k3 ⊢
  clear hW hx hy hs hc1 hc2 hc3
  go_enter Try.func36, Try.ntmps36
  go_upto_region 1 with fail
  rw [← HW.out]
  refine wp_region_first_grown 19 3 (by assumption) rfl (by kernel_rfl) (by kernel_rfl) (by kernel_rfl) (by kernel_rfl) ?_
  simp only [List.take_succ_cons, List.take_zero]
  repeat (go_big_quiet_step (first | (go_at_call 55; first | (with_reducible refine Calls.grown_of (k1 _ _)) | (with_reducible refine Calls.grown_of (k2 _ _))) | (go_at_call 56; with_reducible refine Calls.grown_of (k3 _ _))))
  refine wpQuiet_nil ?_
  intro V hw'
  obtain ⟨⟨nq, osq⟩, hw''⟩ := hw'
  have HGV : Hid (Grows w V) := by apply hide; rw [hw'']; exact HG.out.trans ⟨nq, osq, rfl⟩
  have kO := or_any (V.alloc (.cells #[.int .i64 c1, .int .i64 c2, .int .i64 c3] 3)) V.heap.size c1 c2 c3 (BxA.new _ _ _)
  clear hw'' x0 x1 x2 y0 y1 y2 k1 k2 k3
  refine wpAny_ready (rs := [19]) (by kernel_rfl) (by simp) ?_
  refine AllReady.cons rfl (fun K hK => ?_) AllReady.nil
  go_simp
  refine hK _ _ ?_
  clear hK K
  refine wpAny_ready (rs := [20]) (by kernel_rfl) (by simp) ?_
  refine AllReady.cons rfl (fun K hK => ?_) AllReady.nil
  go_simp
  go_at_call 54
  refine kO.mono ?_
  rintro e5 w5 ⟨rfl, rfl⟩
  refine hK _ _ ?_
  clear hK K kO
  refine wpAny_ready (rs := [21]) (by kernel_rfl) (by simp) ?_
  refine AllReady.cons rfl (fun K hK => ?_) AllReady.nil
  go_simp
  refine hK _ _ ?_
  clear hK K
  refine wpAny_done (by kernel_rfl) ?_ _
  go_wp2_with fail
  go_ret
  exact ⟨rfl, HGV.out.trans (Grows.alloc _ _)⟩
def gaB (a b : K3) : Bool := decide (or3 (ci b.2.2 a.2.2) (ci b.1 a.1) (ci a.2.1 b.2.1) < 0)
set_option maxRecDepth 100000 in
set_option maxHeartbeats 3200000 in
theorem goes_any (w : World) (a b : K3) : Calls Try.prog 59 #[kv a, kv b] w fun e w' => e = .returned (.bool (gaB a b)) ∧ Grows w w' := by
  have mixed : Try.prog.follows .mixedOrders = true := by kernel_rfl
  obtain ⟨a1, a2, a3⟩ := a
  obtain ⟨b1, b2, b3⟩ := b
  unfold kv gaB
  simp only
  obtain ⟨W, hW⟩ : ∃ W, W = (w.alloc (.cells #[.int .i64 a1, .int .i64 a2, .int .i64 a3] 55)).alloc (.cells #[.int .i64 b1, .int .i64 b2, .int .i64 b3] 55) := ⟨_, rfl⟩
  have HG : Hid (Grows w W) := by apply hide; rw [hW]; exact (Grows.alloc _ _).trans (Grows.alloc _ _)
  have hs : (w.alloc (.cells #[.int .i64 a1, .int .i64 a2, .int .i64 a3] 55)).heap.size = w.heap.size + 1 := by simp
  have hx : BxA W w.heap.size 55 #[.int .i64 a1, .int .i64 a2, .int .i64 a3] := by
    rw [hW]
    unfold BxA
    rw [Below.heap_alloc _ _ _ (by rw [hs]; omega)]
    exact BxA.new _ _ _
  have hy : BxA W (w.heap.size + 1) 55 #[.int .i64 b1, .int .i64 b2, .int .i64 b3] := by
    rw [hW, ← hs]
    exact BxA.new _ _ _
  have x0 := fun nq os => gro_cell (hx.cell 0 _ rfl) nq os
  have x1 := fun nq os => gro_cell (hx.cell 1 _ rfl) nq os
  have x2 := fun nq os => gro_cell (hx.cell 2 _ rfl) nq os
  have y0 := fun nq os => gro_cell (hy.cell 0 _ rfl) nq os
  have y1 := fun nq os => gro_cell (hy.cell 1 _ rfl) nq os
  have y2 := fun nq os => gro_cell (hy.cell 2 _ rfl) nq os
  have HW : Hid (W = (w.alloc (.cells #[.int .i64 a1, .int .i64 a2, .int .i64 a3] 55)).alloc (.cells #[.int .i64 b1, .int .i64 b2, .int .i64 b3] 55)) := hW
  have k1 : ∀ nq os, _ := fun nq os => grown_at (w := W) (fun w' => (cmpi_any w' b3 a3).mono fun _ _ ⟨h1, h2⟩ => ⟨h1, h2 ▸ Grows.refl _⟩) nq os
  have k2 : ∀ nq os, _ := fun nq os => grown_at (w := W) (fun w' => (cmp_any w' b1 a1).mono fun _ _ ⟨h1, h2⟩ => ⟨h1, h2 ▸ Grows.refl _⟩) nq os
  have k3 : ∀ nq os, _ := fun nq os => grown_at (w := W) (fun w' => (cmp_any w' a2 b2).mono fun _ _ ⟨h1, h2⟩ => ⟨h1, h2 ▸ Grows.refl _⟩) nq os
  obtain ⟨c1, hc1⟩ : ∃ c, c = ci b3 a3 := ⟨_, rfl⟩
  obtain ⟨c2, hc2⟩ : ∃ c, c = ci b1 a1 := ⟨_, rfl⟩
  obtain ⟨c3, hc3⟩ : ∃ c, c = ci a2 b2 := ⟨_, rfl⟩
  simp only [← hc1, ← hc2, ← hc3] at k1 k2 k3 ⊢
  clear hW hx hy hs hc1 hc2 hc3
  go_enter Try.func59, Try.ntmps59
  go_upto_region 1 with fail
  rw [← HW.out]
  refine wp_region_first_grown 19 4 (by assumption) rfl (by kernel_rfl) (by kernel_rfl) (by kernel_rfl) (by kernel_rfl) ?_
  simp only [List.take_succ_cons, List.take_zero]
  repeat (go_big_quiet_step (first | (go_at_call 55; first | (with_reducible refine Calls.grown_of (k2 _ _)) | (with_reducible refine Calls.grown_of (k3 _ _))) | (go_at_call 56; with_reducible refine Calls.grown_of (k1 _ _))))
  refine wpQuiet_nil ?_
  intro V hw'
  obtain ⟨⟨nq, osq⟩, hw''⟩ := hw'
  have HGV : Hid (Grows w V) := by apply hide; rw [hw'']; exact HG.out.trans ⟨nq, osq, rfl⟩
  have kO := or_any (V.alloc (.cells #[.int .i64 c1, .int .i64 c2, .int .i64 c3] 3)) V.heap.size c1 c2 c3 (BxA.new _ _ _)
  clear hw'' x0 x1 x2 y0 y1 y2 k1 k2 k3
  refine wpAny_ready (rs := [19]) (by kernel_rfl) (by simp) ?_
  refine AllReady.cons rfl (fun K hK => ?_) AllReady.nil
  go_simp
  refine hK _ _ ?_
  clear hK K
  refine wpAny_ready (rs := [20]) (by kernel_rfl) (by simp) ?_
  refine AllReady.cons rfl (fun K hK => ?_) AllReady.nil
  go_simp
  go_at_call 54
  refine kO.mono ?_
  rintro e5 w5 ⟨rfl, rfl⟩
  refine hK _ _ ?_
  clear hK K kO
  refine wpAny_ready (rs := [21]) (by kernel_rfl) (by simp) ?_
  refine AllReady.cons rfl (fun K hK => ?_) AllReady.nil
  go_simp
  refine hK _ _ ?_
  clear hK K
  refine wpAny_ready (rs := [22]) (by kernel_rfl) (by simp) ?_
  refine AllReady.cons rfl (fun K hK => ?_) AllReady.nil
  go_simp
  refine hK _ _ ?_
  clear hK K
  refine wpAny_done (by kernel_rfl) ?_ _
  go_wp2_with fail
  go_ret
  exact ⟨rfl, HGV.out.trans (Grows.alloc _ _)⟩
theorem ci_lt {x y : Int} : ci x y < 0 ↔ x < y := by
  unfold ci
  split
  · simp; assumption
  · split <;> simp <;> omega
theorem ci_zero {x y : Int} : ci x y = 0 ↔ x = y := by
  unfold ci
  split
  · simp; omega
  · split <;> simp <;> omega
theorem ga_iff (a b : K3) : gaB a b = decide (Ahd a b) := by
  unfold gaB
  rw [Bool.eq_iff_iff, decide_eq_true_iff, decide_eq_true_iff]
  unfold or3 Ahd
  simp only [ne_eq, ci_zero]
  split
  · rw [ci_lt]; omega
  · split
    · rw [ci_lt]; omega
    · rw [ci_lt]; omega
/-- The order in which sets are told. -/
def Stn (a b : K3) : Prop := a.1 < b.1 ∨ (a.1 = b.1 ∧ (a.2.1 < b.2.1 ∨ (a.2.1 = b.2.1 ∧ a.2.2 < b.2.2)))
instance (a b : K3) : Decidable (Stn a b) := by unfold Stn; infer_instance
theorem std_iff (a b : K3) : cmpK a b < 0 ↔ Stn a b := by
  unfold cmpK or3 Stn
  simp only [ne_eq, ci_zero]
  split
  · rw [ci_lt]; omega
  · split
    · rw [ci_lt]; omega
    · rw [ci_lt]; omega
end Go.Proofs.Ytgbmigfamefenaa
