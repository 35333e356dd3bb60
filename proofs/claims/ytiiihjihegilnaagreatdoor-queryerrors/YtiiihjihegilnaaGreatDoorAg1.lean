/- What the texts of agg hold, over this program's numbers. -/
import Derived.Test.YtiiihjihegilnaaGreatDoorAg0
namespace Go.Proofs.YtiiihjihegilnaaGreatDoor.Ag
open Go.RowKit Go.Sort

theorem Grows.setCell {w W : World} (h : Grows w W) {a : Addr} (ha : w.heap.size ≤ a.block) (u : Value) : Grows w (W.setCell a u) := by
  obtain ⟨q, os, rfl⟩ := h
  refine ⟨q, ?_⟩
  unfold World.setCell grow
  simp only
  exact ⟨_, by rw [modify_append_right _ _ _ _ (show (w.drewN q).heap.size ≤ a.block from ha)]⟩
set_option maxHeartbeats 8000000 in
theorem wayOf_1 (w : World) (c : Int) : Calls Tryz.prog 62 #[.agg #[.int .i64 1, .int .i64 c]] w fun e w' => e = .returned (.agg #[.func (.func 83) #[] #[], .func (.func 79) #[] #[], .func (.func 80) #[] #[], .func (.func 84) #[] #[], .func (.func 82) #[] #[]]) ∧ Grows w w' := by
  obtain ⟨W, hW⟩ : ∃ W, W = (w.alloc (.cells #[.int .i64 1, .int .i64 c] 67)).alloc (.cells #[.nilFunc, .nilFunc, .nilFunc, .nilFunc, .nilFunc] 127) := ⟨_, rfl⟩
  have gW : Grows w W := by rw [hW]; exact (Grows.alloc _ _).trans (Grows.alloc _ _)
  have s0 : w.heap.size + 1 = (w.alloc (.cells #[.int .i64 1, .int .i64 c] 67)).heap.size := by simp
  have a0 : W.cell? ⟨w.heap.size, 0, none⟩ = some (.int .i64 1) := by rw [hW]; exact cell_alloc_sl _ (al_new _ _ _ rfl rfl)
  have b : ∀ i u, (#[Value.nilFunc, .nilFunc, .nilFunc, .nilFunc, .nilFunc])[i]? = some u → W.cell? ⟨w.heap.size + 1, i, none⟩ = some u := fun i u hi => by rw [hW]; exact al_new _ _ _ s0 hi
  have bf : ∀ i, W.frozen? ⟨w.heap.size + 1, i, none⟩ = false := fun i => by rw [hW, s0]; simp
  have kW := ways_any W
  have HB : Aside (∀ w1, Grows W w1 → (∀ o, (w1.alloc o).cell? ⟨w.heap.size, 0, none⟩ = some (.int .i64 1)) ∧ (∀ o i u, (#[Value.nilFunc, .nilFunc, .nilFunc, .nilFunc, .nilFunc])[i]? = some u → (w1.alloc o).cell? ⟨w.heap.size + 1, i, none⟩ = some u) ∧ ∀ o i, (w1.alloc o).frozen? ⟨w.heap.size + 1, i, none⟩ = false) := fun w1 g1 =>
    ⟨fun o => cell_up (g1.trans (Grows.alloc _ o)).below a0, fun o i u hi => cell_up (g1.trans (Grows.alloc _ o)).below (b i u hi), fun o i => by rw [(g1.trans (Grows.alloc _ o)).below.frozen (p := ⟨w.heap.size + 1, i, none⟩) (show w.heap.size + 1 < W.heap.size from World.block_lt_of_cell? W ⟨w.heap.size + 1, 0, none⟩ (b 0 _ rfl))]; exact bf i⟩
  have HG : Hid (Grows w W) := gW
  have HW : Hid _ := hW
  rw [hW] at kW
  clear gW s0 a0 b bf hW
  go_enter Tryz.func62, Tryz.ntmps62
  go_wp2_with fail
  refine kW.mono ?_
  rintro e w1 ⟨rfl, g1⟩
  rw [← HW.out] at g1
  clear kW
  obtain ⟨a0, b, bf⟩ := HB.out w1 g1
  have b0 := fun o => b o 0 _ rfl
  have b1 := fun o => b o 1 _ rfl
  have b2 := fun o => b o 2 _ rfl
  have b3 := fun o => b o 3 _ rfl
  have b4 := fun o => b o 4 _ rfl
  have x0 : (w1.alloc (.cells wl 139)).cell? ⟨w1.heap.size, 5, none⟩ = some (.func (.func 83) #[] #[]) := al_new _ _ _ rfl rfl
  have x1 : (w1.alloc (.cells wl 139)).cell? ⟨w1.heap.size, 6, none⟩ = some (.func (.func 79) #[] #[]) := al_new _ _ _ rfl rfl
  have x2 : (w1.alloc (.cells wl 139)).cell? ⟨w1.heap.size, 7, none⟩ = some (.func (.func 80) #[] #[]) := al_new _ _ _ rfl rfl
  have x3 : (w1.alloc (.cells wl 139)).cell? ⟨w1.heap.size, 8, none⟩ = some (.func (.func 84) #[] #[]) := al_new _ _ _ rfl rfl
  have x4 : (w1.alloc (.cells wl 139)).cell? ⟨w1.heap.size, 9, none⟩ = some (.func (.func 82) #[] #[]) := al_new _ _ _ rfl rfl
  have kI := within_any (w1.alloc (.cells wl 139)) 1 6
  rw [decide_eq_true (by decide)] at kI
  have hF : Grows w ((((((w1.alloc (.cells wl 139)).setCell ⟨w.heap.size + 1, 0, none⟩ (.func (.func 83) #[] #[])).setCell ⟨w.heap.size + 1, 1, none⟩ (.func (.func 79) #[] #[])).setCell ⟨w.heap.size + 1, 2, none⟩ (.func (.func 80) #[] #[])).setCell ⟨w.heap.size + 1, 3, none⟩ (.func (.func 84) #[] #[])).setCell ⟨w.heap.size + 1, 4, none⟩ (.func (.func 82) #[] #[])) := ((((((HG.out.trans g1).trans (Grows.alloc _ _)).setCell (a := ⟨w.heap.size + 1, 0, none⟩) (Nat.le_succ _) _).setCell (a := ⟨w.heap.size + 1, 1, none⟩) (Nat.le_succ _) _).setCell (a := ⟨w.heap.size + 1, 2, none⟩) (Nat.le_succ _) _).setCell (a := ⟨w.heap.size + 1, 3, none⟩) (Nat.le_succ _) _).setCell (a := ⟨w.heap.size + 1, 4, none⟩) (Nat.le_succ _) _
  have HF : Hid _ := hF
  clear b g1 hF
  go_wp2_with (first | (refine wpList_store_new rfl 139 (.tmp 3) (.tmp 4) rfl w1 #[.nilFunc, .nilFunc, .nilFunc, .nilFunc, .nilFunc, .nilFunc, .nilFunc, .nilFunc, .nilFunc, .nilFunc, .nilFunc, .nilFunc, .nilFunc, .nilFunc, .nilFunc, .nilFunc, .nilFunc, .nilFunc, .nilFunc, .nilFunc, .nilFunc, .nilFunc, .nilFunc, .nilFunc, .nilFunc, .nilFunc, .nilFunc, .nilFunc, .nilFunc, .nilFunc] wl rfl rfl rfl wl_info rfl wl_all ?_))
  refine kI.mono ?_
  rintro e w2 ⟨rfl, rfl⟩
  go_wp2_with fail
  (try simp only [Exit.inBlock, Exit.then])
  refine bodyPost_ret (by simp [results, Tryz.results62, go_sem, b0, b1, b2, b3, b4]; try rfl) rfl ?_
  exact ⟨by with_reducible rfl, HF.out⟩
set_option maxHeartbeats 8000000 in
theorem wayOf_0 (w : World) (c : Int) : Calls Tryz.prog 62 #[.agg #[.int .i64 0, .int .i64 c]] w fun e w' => e = .returned (.agg #[.func (.func 78) #[] #[], .func (.func 79) #[] #[], .func (.func 80) #[] #[], .func (.func 81) #[] #[], .func (.func 82) #[] #[]]) ∧ Grows w w' := by
  obtain ⟨W, hW⟩ : ∃ W, W = (w.alloc (.cells #[.int .i64 0, .int .i64 c] 67)).alloc (.cells #[.nilFunc, .nilFunc, .nilFunc, .nilFunc, .nilFunc] 127) := ⟨_, rfl⟩
  have gW : Grows w W := by rw [hW]; exact (Grows.alloc _ _).trans (Grows.alloc _ _)
  have s0 : w.heap.size + 1 = (w.alloc (.cells #[.int .i64 0, .int .i64 c] 67)).heap.size := by simp
  have a0 : W.cell? ⟨w.heap.size, 0, none⟩ = some (.int .i64 0) := by rw [hW]; exact cell_alloc_sl _ (al_new _ _ _ rfl rfl)
  have b : ∀ i u, (#[Value.nilFunc, .nilFunc, .nilFunc, .nilFunc, .nilFunc])[i]? = some u → W.cell? ⟨w.heap.size + 1, i, none⟩ = some u := fun i u hi => by rw [hW]; exact al_new _ _ _ s0 hi
  have bf : ∀ i, W.frozen? ⟨w.heap.size + 1, i, none⟩ = false := fun i => by rw [hW, s0]; simp
  have kW := ways_any W
  have HB : Aside (∀ w1, Grows W w1 → (∀ o, (w1.alloc o).cell? ⟨w.heap.size, 0, none⟩ = some (.int .i64 0)) ∧ (∀ o i u, (#[Value.nilFunc, .nilFunc, .nilFunc, .nilFunc, .nilFunc])[i]? = some u → (w1.alloc o).cell? ⟨w.heap.size + 1, i, none⟩ = some u) ∧ ∀ o i, (w1.alloc o).frozen? ⟨w.heap.size + 1, i, none⟩ = false) := fun w1 g1 =>
    ⟨fun o => cell_up (g1.trans (Grows.alloc _ o)).below a0, fun o i u hi => cell_up (g1.trans (Grows.alloc _ o)).below (b i u hi), fun o i => by rw [(g1.trans (Grows.alloc _ o)).below.frozen (p := ⟨w.heap.size + 1, i, none⟩) (show w.heap.size + 1 < W.heap.size from World.block_lt_of_cell? W ⟨w.heap.size + 1, 0, none⟩ (b 0 _ rfl))]; exact bf i⟩
  have HG : Hid (Grows w W) := gW
  have HW : Hid _ := hW
  rw [hW] at kW
  clear gW s0 a0 b bf hW
  go_enter Tryz.func62, Tryz.ntmps62
  go_wp2_with fail
  refine kW.mono ?_
  rintro e w1 ⟨rfl, g1⟩
  rw [← HW.out] at g1
  clear kW
  obtain ⟨a0, b, bf⟩ := HB.out w1 g1
  have b0 := fun o => b o 0 _ rfl
  have b1 := fun o => b o 1 _ rfl
  have b2 := fun o => b o 2 _ rfl
  have b3 := fun o => b o 3 _ rfl
  have b4 := fun o => b o 4 _ rfl
  have x0 : (w1.alloc (.cells wl 139)).cell? ⟨w1.heap.size, 0, none⟩ = some (.func (.func 78) #[] #[]) := al_new _ _ _ rfl rfl
  have x1 : (w1.alloc (.cells wl 139)).cell? ⟨w1.heap.size, 1, none⟩ = some (.func (.func 79) #[] #[]) := al_new _ _ _ rfl rfl
  have x2 : (w1.alloc (.cells wl 139)).cell? ⟨w1.heap.size, 2, none⟩ = some (.func (.func 80) #[] #[]) := al_new _ _ _ rfl rfl
  have x3 : (w1.alloc (.cells wl 139)).cell? ⟨w1.heap.size, 3, none⟩ = some (.func (.func 81) #[] #[]) := al_new _ _ _ rfl rfl
  have x4 : (w1.alloc (.cells wl 139)).cell? ⟨w1.heap.size, 4, none⟩ = some (.func (.func 82) #[] #[]) := al_new _ _ _ rfl rfl
  have kI := within_any (w1.alloc (.cells wl 139)) 0 6
  rw [decide_eq_true (by decide)] at kI
  have hF : Grows w ((((((w1.alloc (.cells wl 139)).setCell ⟨w.heap.size + 1, 0, none⟩ (.func (.func 78) #[] #[])).setCell ⟨w.heap.size + 1, 1, none⟩ (.func (.func 79) #[] #[])).setCell ⟨w.heap.size + 1, 2, none⟩ (.func (.func 80) #[] #[])).setCell ⟨w.heap.size + 1, 3, none⟩ (.func (.func 81) #[] #[])).setCell ⟨w.heap.size + 1, 4, none⟩ (.func (.func 82) #[] #[])) := ((((((HG.out.trans g1).trans (Grows.alloc _ _)).setCell (a := ⟨w.heap.size + 1, 0, none⟩) (Nat.le_succ _) _).setCell (a := ⟨w.heap.size + 1, 1, none⟩) (Nat.le_succ _) _).setCell (a := ⟨w.heap.size + 1, 2, none⟩) (Nat.le_succ _) _).setCell (a := ⟨w.heap.size + 1, 3, none⟩) (Nat.le_succ _) _).setCell (a := ⟨w.heap.size + 1, 4, none⟩) (Nat.le_succ _) _
  have HF : Hid _ := hF
  clear b g1 hF
  go_wp2_with (first | (refine wpList_store_new rfl 139 (.tmp 3) (.tmp 4) rfl w1 #[.nilFunc, .nilFunc, .nilFunc, .nilFunc, .nilFunc, .nilFunc, .nilFunc, .nilFunc, .nilFunc, .nilFunc, .nilFunc, .nilFunc, .nilFunc, .nilFunc, .nilFunc, .nilFunc, .nilFunc, .nilFunc, .nilFunc, .nilFunc, .nilFunc, .nilFunc, .nilFunc, .nilFunc, .nilFunc, .nilFunc, .nilFunc, .nilFunc, .nilFunc, .nilFunc] wl rfl rfl rfl wl_info rfl wl_all ?_))
  refine kI.mono ?_
  rintro e w2 ⟨rfl, rfl⟩
  go_wp2_with fail
  (try simp only [Exit.inBlock, Exit.then])
  refine bodyPost_ret (by simp [results, Tryz.results62, go_sem, b0, b1, b2, b3, b4]; try rfl) rfl ?_
  exact ⟨by with_reducible rfl, HF.out⟩
set_option maxHeartbeats 8000000 in
theorem wayOf_2 (w : World) (c : Int) : Calls Tryz.prog 62 #[.agg #[.int .i64 2, .int .i64 c]] w fun e w' => e = .returned (.agg #[.func (.func 85) #[] #[], .func (.func 86) #[] #[], .func (.func 87) #[] #[], .func (.func 81) #[] #[], .func (.func 88) #[] #[]]) ∧ Grows w w' := by
  obtain ⟨W, hW⟩ : ∃ W, W = (w.alloc (.cells #[.int .i64 2, .int .i64 c] 67)).alloc (.cells #[.nilFunc, .nilFunc, .nilFunc, .nilFunc, .nilFunc] 127) := ⟨_, rfl⟩
  have gW : Grows w W := by rw [hW]; exact (Grows.alloc _ _).trans (Grows.alloc _ _)
  have s0 : w.heap.size + 1 = (w.alloc (.cells #[.int .i64 2, .int .i64 c] 67)).heap.size := by simp
  have a0 : W.cell? ⟨w.heap.size, 0, none⟩ = some (.int .i64 2) := by rw [hW]; exact cell_alloc_sl _ (al_new _ _ _ rfl rfl)
  have b : ∀ i u, (#[Value.nilFunc, .nilFunc, .nilFunc, .nilFunc, .nilFunc])[i]? = some u → W.cell? ⟨w.heap.size + 1, i, none⟩ = some u := fun i u hi => by rw [hW]; exact al_new _ _ _ s0 hi
  have bf : ∀ i, W.frozen? ⟨w.heap.size + 1, i, none⟩ = false := fun i => by rw [hW, s0]; simp
  have kW := ways_any W
  have HB : Aside (∀ w1, Grows W w1 → (∀ o, (w1.alloc o).cell? ⟨w.heap.size, 0, none⟩ = some (.int .i64 2)) ∧ (∀ o i u, (#[Value.nilFunc, .nilFunc, .nilFunc, .nilFunc, .nilFunc])[i]? = some u → (w1.alloc o).cell? ⟨w.heap.size + 1, i, none⟩ = some u) ∧ ∀ o i, (w1.alloc o).frozen? ⟨w.heap.size + 1, i, none⟩ = false) := fun w1 g1 =>
    ⟨fun o => cell_up (g1.trans (Grows.alloc _ o)).below a0, fun o i u hi => cell_up (g1.trans (Grows.alloc _ o)).below (b i u hi), fun o i => by rw [(g1.trans (Grows.alloc _ o)).below.frozen (p := ⟨w.heap.size + 1, i, none⟩) (show w.heap.size + 1 < W.heap.size from World.block_lt_of_cell? W ⟨w.heap.size + 1, 0, none⟩ (b 0 _ rfl))]; exact bf i⟩
  have HG : Hid (Grows w W) := gW
  have HW : Hid _ := hW
  rw [hW] at kW
  clear gW s0 a0 b bf hW
  go_enter Tryz.func62, Tryz.ntmps62
  go_wp2_with fail
  refine kW.mono ?_
  rintro e w1 ⟨rfl, g1⟩
  rw [← HW.out] at g1
  clear kW
  obtain ⟨a0, b, bf⟩ := HB.out w1 g1
  have b0 := fun o => b o 0 _ rfl
  have b1 := fun o => b o 1 _ rfl
  have b2 := fun o => b o 2 _ rfl
  have b3 := fun o => b o 3 _ rfl
  have b4 := fun o => b o 4 _ rfl
  have x0 : (w1.alloc (.cells wl 139)).cell? ⟨w1.heap.size, 10, none⟩ = some (.func (.func 85) #[] #[]) := al_new _ _ _ rfl rfl
  have x1 : (w1.alloc (.cells wl 139)).cell? ⟨w1.heap.size, 11, none⟩ = some (.func (.func 86) #[] #[]) := al_new _ _ _ rfl rfl
  have x2 : (w1.alloc (.cells wl 139)).cell? ⟨w1.heap.size, 12, none⟩ = some (.func (.func 87) #[] #[]) := al_new _ _ _ rfl rfl
  have x3 : (w1.alloc (.cells wl 139)).cell? ⟨w1.heap.size, 13, none⟩ = some (.func (.func 81) #[] #[]) := al_new _ _ _ rfl rfl
  have x4 : (w1.alloc (.cells wl 139)).cell? ⟨w1.heap.size, 14, none⟩ = some (.func (.func 88) #[] #[]) := al_new _ _ _ rfl rfl
  have kI := within_any (w1.alloc (.cells wl 139)) 2 6
  rw [decide_eq_true (by decide)] at kI
  have hF : Grows w ((((((w1.alloc (.cells wl 139)).setCell ⟨w.heap.size + 1, 0, none⟩ (.func (.func 85) #[] #[])).setCell ⟨w.heap.size + 1, 1, none⟩ (.func (.func 86) #[] #[])).setCell ⟨w.heap.size + 1, 2, none⟩ (.func (.func 87) #[] #[])).setCell ⟨w.heap.size + 1, 3, none⟩ (.func (.func 81) #[] #[])).setCell ⟨w.heap.size + 1, 4, none⟩ (.func (.func 88) #[] #[])) := ((((((HG.out.trans g1).trans (Grows.alloc _ _)).setCell (a := ⟨w.heap.size + 1, 0, none⟩) (Nat.le_succ _) _).setCell (a := ⟨w.heap.size + 1, 1, none⟩) (Nat.le_succ _) _).setCell (a := ⟨w.heap.size + 1, 2, none⟩) (Nat.le_succ _) _).setCell (a := ⟨w.heap.size + 1, 3, none⟩) (Nat.le_succ _) _).setCell (a := ⟨w.heap.size + 1, 4, none⟩) (Nat.le_succ _) _
  have HF : Hid _ := hF
  clear b g1 hF
  go_wp2_with (first | (refine wpList_store_new rfl 139 (.tmp 3) (.tmp 4) rfl w1 #[.nilFunc, .nilFunc, .nilFunc, .nilFunc, .nilFunc, .nilFunc, .nilFunc, .nilFunc, .nilFunc, .nilFunc, .nilFunc, .nilFunc, .nilFunc, .nilFunc, .nilFunc, .nilFunc, .nilFunc, .nilFunc, .nilFunc, .nilFunc, .nilFunc, .nilFunc, .nilFunc, .nilFunc, .nilFunc, .nilFunc, .nilFunc, .nilFunc, .nilFunc, .nilFunc] wl rfl rfl rfl wl_info rfl wl_all ?_))
  refine kI.mono ?_
  rintro e w2 ⟨rfl, rfl⟩
  go_wp2_with fail
  (try simp only [Exit.inBlock, Exit.then])
  refine bodyPost_ret (by simp [results, Tryz.results62, go_sem, b0, b1, b2, b3, b4]; try rfl) rfl ?_
  exact ⟨by with_reducible rfl, HF.out⟩
set_option maxHeartbeats 8000000 in
theorem wayOf_3 (w : World) (c : Int) : Calls Tryz.prog 62 #[.agg #[.int .i64 3, .int .i64 c]] w fun e w' => e = .returned (.agg #[.func (.func 85) #[] #[], .func (.func 89) #[] #[], .func (.func 90) #[] #[], .func (.func 81) #[] #[], .func (.func 88) #[] #[]]) ∧ Grows w w' := by
  obtain ⟨W, hW⟩ : ∃ W, W = (w.alloc (.cells #[.int .i64 3, .int .i64 c] 67)).alloc (.cells #[.nilFunc, .nilFunc, .nilFunc, .nilFunc, .nilFunc] 127) := ⟨_, rfl⟩
  have gW : Grows w W := by rw [hW]; exact (Grows.alloc _ _).trans (Grows.alloc _ _)
  have s0 : w.heap.size + 1 = (w.alloc (.cells #[.int .i64 3, .int .i64 c] 67)).heap.size := by simp
  have a0 : W.cell? ⟨w.heap.size, 0, none⟩ = some (.int .i64 3) := by rw [hW]; exact cell_alloc_sl _ (al_new _ _ _ rfl rfl)
  have b : ∀ i u, (#[Value.nilFunc, .nilFunc, .nilFunc, .nilFunc, .nilFunc])[i]? = some u → W.cell? ⟨w.heap.size + 1, i, none⟩ = some u := fun i u hi => by rw [hW]; exact al_new _ _ _ s0 hi
  have bf : ∀ i, W.frozen? ⟨w.heap.size + 1, i, none⟩ = false := fun i => by rw [hW, s0]; simp
  have kW := ways_any W
  have HB : Aside (∀ w1, Grows W w1 → (∀ o, (w1.alloc o).cell? ⟨w.heap.size, 0, none⟩ = some (.int .i64 3)) ∧ (∀ o i u, (#[Value.nilFunc, .nilFunc, .nilFunc, .nilFunc, .nilFunc])[i]? = some u → (w1.alloc o).cell? ⟨w.heap.size + 1, i, none⟩ = some u) ∧ ∀ o i, (w1.alloc o).frozen? ⟨w.heap.size + 1, i, none⟩ = false) := fun w1 g1 =>
    ⟨fun o => cell_up (g1.trans (Grows.alloc _ o)).below a0, fun o i u hi => cell_up (g1.trans (Grows.alloc _ o)).below (b i u hi), fun o i => by rw [(g1.trans (Grows.alloc _ o)).below.frozen (p := ⟨w.heap.size + 1, i, none⟩) (show w.heap.size + 1 < W.heap.size from World.block_lt_of_cell? W ⟨w.heap.size + 1, 0, none⟩ (b 0 _ rfl))]; exact bf i⟩
  have HG : Hid (Grows w W) := gW
  have HW : Hid _ := hW
  rw [hW] at kW
  clear gW s0 a0 b bf hW
  go_enter Tryz.func62, Tryz.ntmps62
  go_wp2_with fail
  refine kW.mono ?_
  rintro e w1 ⟨rfl, g1⟩
  rw [← HW.out] at g1
  clear kW
  obtain ⟨a0, b, bf⟩ := HB.out w1 g1
  have b0 := fun o => b o 0 _ rfl
  have b1 := fun o => b o 1 _ rfl
  have b2 := fun o => b o 2 _ rfl
  have b3 := fun o => b o 3 _ rfl
  have b4 := fun o => b o 4 _ rfl
  have x0 : (w1.alloc (.cells wl 139)).cell? ⟨w1.heap.size, 15, none⟩ = some (.func (.func 85) #[] #[]) := al_new _ _ _ rfl rfl
  have x1 : (w1.alloc (.cells wl 139)).cell? ⟨w1.heap.size, 16, none⟩ = some (.func (.func 89) #[] #[]) := al_new _ _ _ rfl rfl
  have x2 : (w1.alloc (.cells wl 139)).cell? ⟨w1.heap.size, 17, none⟩ = some (.func (.func 90) #[] #[]) := al_new _ _ _ rfl rfl
  have x3 : (w1.alloc (.cells wl 139)).cell? ⟨w1.heap.size, 18, none⟩ = some (.func (.func 81) #[] #[]) := al_new _ _ _ rfl rfl
  have x4 : (w1.alloc (.cells wl 139)).cell? ⟨w1.heap.size, 19, none⟩ = some (.func (.func 88) #[] #[]) := al_new _ _ _ rfl rfl
  have kI := within_any (w1.alloc (.cells wl 139)) 3 6
  rw [decide_eq_true (by decide)] at kI
  have hF : Grows w ((((((w1.alloc (.cells wl 139)).setCell ⟨w.heap.size + 1, 0, none⟩ (.func (.func 85) #[] #[])).setCell ⟨w.heap.size + 1, 1, none⟩ (.func (.func 89) #[] #[])).setCell ⟨w.heap.size + 1, 2, none⟩ (.func (.func 90) #[] #[])).setCell ⟨w.heap.size + 1, 3, none⟩ (.func (.func 81) #[] #[])).setCell ⟨w.heap.size + 1, 4, none⟩ (.func (.func 88) #[] #[])) := ((((((HG.out.trans g1).trans (Grows.alloc _ _)).setCell (a := ⟨w.heap.size + 1, 0, none⟩) (Nat.le_succ _) _).setCell (a := ⟨w.heap.size + 1, 1, none⟩) (Nat.le_succ _) _).setCell (a := ⟨w.heap.size + 1, 2, none⟩) (Nat.le_succ _) _).setCell (a := ⟨w.heap.size + 1, 3, none⟩) (Nat.le_succ _) _).setCell (a := ⟨w.heap.size + 1, 4, none⟩) (Nat.le_succ _) _
  have HF : Hid _ := hF
  clear b g1 hF
  go_wp2_with (first | (refine wpList_store_new rfl 139 (.tmp 3) (.tmp 4) rfl w1 #[.nilFunc, .nilFunc, .nilFunc, .nilFunc, .nilFunc, .nilFunc, .nilFunc, .nilFunc, .nilFunc, .nilFunc, .nilFunc, .nilFunc, .nilFunc, .nilFunc, .nilFunc, .nilFunc, .nilFunc, .nilFunc, .nilFunc, .nilFunc, .nilFunc, .nilFunc, .nilFunc, .nilFunc, .nilFunc, .nilFunc, .nilFunc, .nilFunc, .nilFunc, .nilFunc] wl rfl rfl rfl wl_info rfl wl_all ?_))
  refine kI.mono ?_
  rintro e w2 ⟨rfl, rfl⟩
  go_wp2_with fail
  (try simp only [Exit.inBlock, Exit.then])
  refine bodyPost_ret (by simp [results, Tryz.results62, go_sem, b0, b1, b2, b3, b4]; try rfl) rfl ?_
  exact ⟨by with_reducible rfl, HF.out⟩
set_option maxHeartbeats 8000000 in
theorem wayOf_4 (w : World) (c : Int) : Calls Tryz.prog 62 #[.agg #[.int .i64 4, .int .i64 c]] w fun e w' => e = .returned (.agg #[.func (.func 85) #[] #[], .func (.func 89) #[] #[], .func (.func 91) #[] #[], .func (.func 81) #[] #[], .func (.func 88) #[] #[]]) ∧ Grows w w' := by
  obtain ⟨W, hW⟩ : ∃ W, W = (w.alloc (.cells #[.int .i64 4, .int .i64 c] 67)).alloc (.cells #[.nilFunc, .nilFunc, .nilFunc, .nilFunc, .nilFunc] 127) := ⟨_, rfl⟩
  have gW : Grows w W := by rw [hW]; exact (Grows.alloc _ _).trans (Grows.alloc _ _)
  have s0 : w.heap.size + 1 = (w.alloc (.cells #[.int .i64 4, .int .i64 c] 67)).heap.size := by simp
  have a0 : W.cell? ⟨w.heap.size, 0, none⟩ = some (.int .i64 4) := by rw [hW]; exact cell_alloc_sl _ (al_new _ _ _ rfl rfl)
  have b : ∀ i u, (#[Value.nilFunc, .nilFunc, .nilFunc, .nilFunc, .nilFunc])[i]? = some u → W.cell? ⟨w.heap.size + 1, i, none⟩ = some u := fun i u hi => by rw [hW]; exact al_new _ _ _ s0 hi
  have bf : ∀ i, W.frozen? ⟨w.heap.size + 1, i, none⟩ = false := fun i => by rw [hW, s0]; simp
  have kW := ways_any W
  have HB : Aside (∀ w1, Grows W w1 → (∀ o, (w1.alloc o).cell? ⟨w.heap.size, 0, none⟩ = some (.int .i64 4)) ∧ (∀ o i u, (#[Value.nilFunc, .nilFunc, .nilFunc, .nilFunc, .nilFunc])[i]? = some u → (w1.alloc o).cell? ⟨w.heap.size + 1, i, none⟩ = some u) ∧ ∀ o i, (w1.alloc o).frozen? ⟨w.heap.size + 1, i, none⟩ = false) := fun w1 g1 =>
    ⟨fun o => cell_up (g1.trans (Grows.alloc _ o)).below a0, fun o i u hi => cell_up (g1.trans (Grows.alloc _ o)).below (b i u hi), fun o i => by rw [(g1.trans (Grows.alloc _ o)).below.frozen (p := ⟨w.heap.size + 1, i, none⟩) (show w.heap.size + 1 < W.heap.size from World.block_lt_of_cell? W ⟨w.heap.size + 1, 0, none⟩ (b 0 _ rfl))]; exact bf i⟩
  have HG : Hid (Grows w W) := gW
  have HW : Hid _ := hW
  rw [hW] at kW
  clear gW s0 a0 b bf hW
  go_enter Tryz.func62, Tryz.ntmps62
  go_wp2_with fail
  refine kW.mono ?_
  rintro e w1 ⟨rfl, g1⟩
  rw [← HW.out] at g1
  clear kW
  obtain ⟨a0, b, bf⟩ := HB.out w1 g1
  have b0 := fun o => b o 0 _ rfl
  have b1 := fun o => b o 1 _ rfl
  have b2 := fun o => b o 2 _ rfl
  have b3 := fun o => b o 3 _ rfl
  have b4 := fun o => b o 4 _ rfl
  have x0 : (w1.alloc (.cells wl 139)).cell? ⟨w1.heap.size, 20, none⟩ = some (.func (.func 85) #[] #[]) := al_new _ _ _ rfl rfl
  have x1 : (w1.alloc (.cells wl 139)).cell? ⟨w1.heap.size, 21, none⟩ = some (.func (.func 89) #[] #[]) := al_new _ _ _ rfl rfl
  have x2 : (w1.alloc (.cells wl 139)).cell? ⟨w1.heap.size, 22, none⟩ = some (.func (.func 91) #[] #[]) := al_new _ _ _ rfl rfl
  have x3 : (w1.alloc (.cells wl 139)).cell? ⟨w1.heap.size, 23, none⟩ = some (.func (.func 81) #[] #[]) := al_new _ _ _ rfl rfl
  have x4 : (w1.alloc (.cells wl 139)).cell? ⟨w1.heap.size, 24, none⟩ = some (.func (.func 88) #[] #[]) := al_new _ _ _ rfl rfl
  have kI := within_any (w1.alloc (.cells wl 139)) 4 6
  rw [decide_eq_true (by decide)] at kI
  have hF : Grows w ((((((w1.alloc (.cells wl 139)).setCell ⟨w.heap.size + 1, 0, none⟩ (.func (.func 85) #[] #[])).setCell ⟨w.heap.size + 1, 1, none⟩ (.func (.func 89) #[] #[])).setCell ⟨w.heap.size + 1, 2, none⟩ (.func (.func 91) #[] #[])).setCell ⟨w.heap.size + 1, 3, none⟩ (.func (.func 81) #[] #[])).setCell ⟨w.heap.size + 1, 4, none⟩ (.func (.func 88) #[] #[])) := ((((((HG.out.trans g1).trans (Grows.alloc _ _)).setCell (a := ⟨w.heap.size + 1, 0, none⟩) (Nat.le_succ _) _).setCell (a := ⟨w.heap.size + 1, 1, none⟩) (Nat.le_succ _) _).setCell (a := ⟨w.heap.size + 1, 2, none⟩) (Nat.le_succ _) _).setCell (a := ⟨w.heap.size + 1, 3, none⟩) (Nat.le_succ _) _).setCell (a := ⟨w.heap.size + 1, 4, none⟩) (Nat.le_succ _) _
  have HF : Hid _ := hF
  clear b g1 hF
  go_wp2_with (first | (refine wpList_store_new rfl 139 (.tmp 3) (.tmp 4) rfl w1 #[.nilFunc, .nilFunc, .nilFunc, .nilFunc, .nilFunc, .nilFunc, .nilFunc, .nilFunc, .nilFunc, .nilFunc, .nilFunc, .nilFunc, .nilFunc, .nilFunc, .nilFunc, .nilFunc, .nilFunc, .nilFunc, .nilFunc, .nilFunc, .nilFunc, .nilFunc, .nilFunc, .nilFunc, .nilFunc, .nilFunc, .nilFunc, .nilFunc, .nilFunc, .nilFunc] wl rfl rfl rfl wl_info rfl wl_all ?_))
  refine kI.mono ?_
  rintro e w2 ⟨rfl, rfl⟩
  go_wp2_with fail
  (try simp only [Exit.inBlock, Exit.then])
  refine bodyPost_ret (by simp [results, Tryz.results62, go_sem, b0, b1, b2, b3, b4]; try rfl) rfl ?_
  exact ⟨by with_reducible rfl, HF.out⟩
set_option maxHeartbeats 8000000 in
theorem wayOf_5 (w : World) (c : Int) : Calls Tryz.prog 62 #[.agg #[.int .i64 5, .int .i64 c]] w fun e w' => e = .returned (.agg #[.func (.func 92) #[] #[], .func (.func 93) #[] #[], .func (.func 94) #[] #[], .func (.func 95) #[] #[], .func (.func 96) #[] #[]]) ∧ Grows w w' := by
  obtain ⟨W, hW⟩ : ∃ W, W = (w.alloc (.cells #[.int .i64 5, .int .i64 c] 67)).alloc (.cells #[.nilFunc, .nilFunc, .nilFunc, .nilFunc, .nilFunc] 127) := ⟨_, rfl⟩
  have gW : Grows w W := by rw [hW]; exact (Grows.alloc _ _).trans (Grows.alloc _ _)
  have s0 : w.heap.size + 1 = (w.alloc (.cells #[.int .i64 5, .int .i64 c] 67)).heap.size := by simp
  have a0 : W.cell? ⟨w.heap.size, 0, none⟩ = some (.int .i64 5) := by rw [hW]; exact cell_alloc_sl _ (al_new _ _ _ rfl rfl)
  have b : ∀ i u, (#[Value.nilFunc, .nilFunc, .nilFunc, .nilFunc, .nilFunc])[i]? = some u → W.cell? ⟨w.heap.size + 1, i, none⟩ = some u := fun i u hi => by rw [hW]; exact al_new _ _ _ s0 hi
  have bf : ∀ i, W.frozen? ⟨w.heap.size + 1, i, none⟩ = false := fun i => by rw [hW, s0]; simp
  have kW := ways_any W
  have HB : Aside (∀ w1, Grows W w1 → (∀ o, (w1.alloc o).cell? ⟨w.heap.size, 0, none⟩ = some (.int .i64 5)) ∧ (∀ o i u, (#[Value.nilFunc, .nilFunc, .nilFunc, .nilFunc, .nilFunc])[i]? = some u → (w1.alloc o).cell? ⟨w.heap.size + 1, i, none⟩ = some u) ∧ ∀ o i, (w1.alloc o).frozen? ⟨w.heap.size + 1, i, none⟩ = false) := fun w1 g1 =>
    ⟨fun o => cell_up (g1.trans (Grows.alloc _ o)).below a0, fun o i u hi => cell_up (g1.trans (Grows.alloc _ o)).below (b i u hi), fun o i => by rw [(g1.trans (Grows.alloc _ o)).below.frozen (p := ⟨w.heap.size + 1, i, none⟩) (show w.heap.size + 1 < W.heap.size from World.block_lt_of_cell? W ⟨w.heap.size + 1, 0, none⟩ (b 0 _ rfl))]; exact bf i⟩
  have HG : Hid (Grows w W) := gW
  have HW : Hid _ := hW
  rw [hW] at kW
  clear gW s0 a0 b bf hW
  go_enter Tryz.func62, Tryz.ntmps62
  go_wp2_with fail
  refine kW.mono ?_
  rintro e w1 ⟨rfl, g1⟩
  rw [← HW.out] at g1
  clear kW
  obtain ⟨a0, b, bf⟩ := HB.out w1 g1
  have b0 := fun o => b o 0 _ rfl
  have b1 := fun o => b o 1 _ rfl
  have b2 := fun o => b o 2 _ rfl
  have b3 := fun o => b o 3 _ rfl
  have b4 := fun o => b o 4 _ rfl
  have x0 : (w1.alloc (.cells wl 139)).cell? ⟨w1.heap.size, 25, none⟩ = some (.func (.func 92) #[] #[]) := al_new _ _ _ rfl rfl
  have x1 : (w1.alloc (.cells wl 139)).cell? ⟨w1.heap.size, 26, none⟩ = some (.func (.func 93) #[] #[]) := al_new _ _ _ rfl rfl
  have x2 : (w1.alloc (.cells wl 139)).cell? ⟨w1.heap.size, 27, none⟩ = some (.func (.func 94) #[] #[]) := al_new _ _ _ rfl rfl
  have x3 : (w1.alloc (.cells wl 139)).cell? ⟨w1.heap.size, 28, none⟩ = some (.func (.func 95) #[] #[]) := al_new _ _ _ rfl rfl
  have x4 : (w1.alloc (.cells wl 139)).cell? ⟨w1.heap.size, 29, none⟩ = some (.func (.func 96) #[] #[]) := al_new _ _ _ rfl rfl
  have kI := within_any (w1.alloc (.cells wl 139)) 5 6
  rw [decide_eq_true (by decide)] at kI
  have hF : Grows w ((((((w1.alloc (.cells wl 139)).setCell ⟨w.heap.size + 1, 0, none⟩ (.func (.func 92) #[] #[])).setCell ⟨w.heap.size + 1, 1, none⟩ (.func (.func 93) #[] #[])).setCell ⟨w.heap.size + 1, 2, none⟩ (.func (.func 94) #[] #[])).setCell ⟨w.heap.size + 1, 3, none⟩ (.func (.func 95) #[] #[])).setCell ⟨w.heap.size + 1, 4, none⟩ (.func (.func 96) #[] #[])) := ((((((HG.out.trans g1).trans (Grows.alloc _ _)).setCell (a := ⟨w.heap.size + 1, 0, none⟩) (Nat.le_succ _) _).setCell (a := ⟨w.heap.size + 1, 1, none⟩) (Nat.le_succ _) _).setCell (a := ⟨w.heap.size + 1, 2, none⟩) (Nat.le_succ _) _).setCell (a := ⟨w.heap.size + 1, 3, none⟩) (Nat.le_succ _) _).setCell (a := ⟨w.heap.size + 1, 4, none⟩) (Nat.le_succ _) _
  have HF : Hid _ := hF
  clear b g1 hF
  go_wp2_with (first | (refine wpList_store_new rfl 139 (.tmp 3) (.tmp 4) rfl w1 #[.nilFunc, .nilFunc, .nilFunc, .nilFunc, .nilFunc, .nilFunc, .nilFunc, .nilFunc, .nilFunc, .nilFunc, .nilFunc, .nilFunc, .nilFunc, .nilFunc, .nilFunc, .nilFunc, .nilFunc, .nilFunc, .nilFunc, .nilFunc, .nilFunc, .nilFunc, .nilFunc, .nilFunc, .nilFunc, .nilFunc, .nilFunc, .nilFunc, .nilFunc, .nilFunc] wl rfl rfl rfl wl_info rfl wl_all ?_))
  refine kI.mono ?_
  rintro e w2 ⟨rfl, rfl⟩
  go_wp2_with fail
  (try simp only [Exit.inBlock, Exit.then])
  refine bodyPost_ret (by simp [results, Tryz.results62, go_sem, b0, b1, b2, b3, b4]; try rfl) rfl ?_
  exact ⟨by with_reducible rfl, HF.out⟩
set_option maxHeartbeats 8000000 in
theorem wayOf_no (w : World) (k : Int) (hk : ¬(0 ≤ k ∧ k < 6)) (c : Int) : Calls Tryz.prog 62 #[.agg #[.int .i64 k, .int .i64 c]] w fun e w' => e = .returned (.agg #[.func (.func 78) #[] #[], .func (.func 79) #[] #[], .func (.func 80) #[] #[], .func (.func 81) #[] #[], .func (.func 82) #[] #[]]) ∧ Grows w w' := by
  obtain ⟨W, hW⟩ : ∃ W, W = (w.alloc (.cells #[.int .i64 k, .int .i64 c] 67)).alloc (.cells #[.nilFunc, .nilFunc, .nilFunc, .nilFunc, .nilFunc] 127) := ⟨_, rfl⟩
  have gW : Grows w W := by rw [hW]; exact (Grows.alloc _ _).trans (Grows.alloc _ _)
  have s0 : w.heap.size + 1 = (w.alloc (.cells #[.int .i64 k, .int .i64 c] 67)).heap.size := by simp
  have a0 : W.cell? ⟨w.heap.size, 0, none⟩ = some (.int .i64 k) := by rw [hW]; exact cell_alloc_sl _ (al_new _ _ _ rfl rfl)
  have b : ∀ i u, (#[Value.nilFunc, .nilFunc, .nilFunc, .nilFunc, .nilFunc])[i]? = some u → W.cell? ⟨w.heap.size + 1, i, none⟩ = some u := fun i u hi => by rw [hW]; exact al_new _ _ _ s0 hi
  have bf : ∀ i, W.frozen? ⟨w.heap.size + 1, i, none⟩ = false := fun i => by rw [hW, s0]; simp
  have kW := ways_any W
  have HB : Aside (∀ w1, Grows W w1 → (∀ o, (w1.alloc o).cell? ⟨w.heap.size, 0, none⟩ = some (.int .i64 k)) ∧ (∀ o i u, (#[Value.nilFunc, .nilFunc, .nilFunc, .nilFunc, .nilFunc])[i]? = some u → (w1.alloc o).cell? ⟨w.heap.size + 1, i, none⟩ = some u) ∧ ∀ o i, (w1.alloc o).frozen? ⟨w.heap.size + 1, i, none⟩ = false) := fun w1 g1 =>
    ⟨fun o => cell_up (g1.trans (Grows.alloc _ o)).below a0, fun o i u hi => cell_up (g1.trans (Grows.alloc _ o)).below (b i u hi), fun o i => by rw [(g1.trans (Grows.alloc _ o)).below.frozen (p := ⟨w.heap.size + 1, i, none⟩) (show w.heap.size + 1 < W.heap.size from World.block_lt_of_cell? W ⟨w.heap.size + 1, 0, none⟩ (b 0 _ rfl))]; exact bf i⟩
  have HG : Hid (Grows w W) := gW
  have HW : Hid _ := hW
  rw [hW] at kW
  clear gW s0 a0 b bf hW
  go_enter Tryz.func62, Tryz.ntmps62
  go_wp2_with fail
  refine kW.mono ?_
  rintro e w1 ⟨rfl, g1⟩
  rw [← HW.out] at g1
  clear kW
  obtain ⟨a0, b, bf⟩ := HB.out w1 g1
  have b0 := fun o => b o 0 _ rfl
  have b1 := fun o => b o 1 _ rfl
  have b2 := fun o => b o 2 _ rfl
  have b3 := fun o => b o 3 _ rfl
  have b4 := fun o => b o 4 _ rfl
  have x0 : (w1.alloc (.cells wl 139)).cell? ⟨w1.heap.size, 0, none⟩ = some (.func (.func 78) #[] #[]) := al_new _ _ _ rfl rfl
  have x1 : (w1.alloc (.cells wl 139)).cell? ⟨w1.heap.size, 1, none⟩ = some (.func (.func 79) #[] #[]) := al_new _ _ _ rfl rfl
  have x2 : (w1.alloc (.cells wl 139)).cell? ⟨w1.heap.size, 2, none⟩ = some (.func (.func 80) #[] #[]) := al_new _ _ _ rfl rfl
  have x3 : (w1.alloc (.cells wl 139)).cell? ⟨w1.heap.size, 3, none⟩ = some (.func (.func 81) #[] #[]) := al_new _ _ _ rfl rfl
  have x4 : (w1.alloc (.cells wl 139)).cell? ⟨w1.heap.size, 4, none⟩ = some (.func (.func 82) #[] #[]) := al_new _ _ _ rfl rfl
  have kI := within_any (w1.alloc (.cells wl 139)) k 6
  rw [decide_eq_false hk] at kI
  have hF : Grows w ((((((w1.alloc (.cells wl 139)).setCell ⟨w.heap.size + 1, 0, none⟩ (.func (.func 78) #[] #[])).setCell ⟨w.heap.size + 1, 1, none⟩ (.func (.func 79) #[] #[])).setCell ⟨w.heap.size + 1, 2, none⟩ (.func (.func 80) #[] #[])).setCell ⟨w.heap.size + 1, 3, none⟩ (.func (.func 81) #[] #[])).setCell ⟨w.heap.size + 1, 4, none⟩ (.func (.func 82) #[] #[])) := ((((((HG.out.trans g1).trans (Grows.alloc _ _)).setCell (a := ⟨w.heap.size + 1, 0, none⟩) (Nat.le_succ _) _).setCell (a := ⟨w.heap.size + 1, 1, none⟩) (Nat.le_succ _) _).setCell (a := ⟨w.heap.size + 1, 2, none⟩) (Nat.le_succ _) _).setCell (a := ⟨w.heap.size + 1, 3, none⟩) (Nat.le_succ _) _).setCell (a := ⟨w.heap.size + 1, 4, none⟩) (Nat.le_succ _) _
  have HF : Hid _ := hF
  clear b g1 hF hk
  go_wp2_with (first | (refine wpList_store_new rfl 139 (.tmp 3) (.tmp 4) rfl w1 #[.nilFunc, .nilFunc, .nilFunc, .nilFunc, .nilFunc, .nilFunc, .nilFunc, .nilFunc, .nilFunc, .nilFunc, .nilFunc, .nilFunc, .nilFunc, .nilFunc, .nilFunc, .nilFunc, .nilFunc, .nilFunc, .nilFunc, .nilFunc, .nilFunc, .nilFunc, .nilFunc, .nilFunc, .nilFunc, .nilFunc, .nilFunc, .nilFunc, .nilFunc, .nilFunc] wl rfl rfl rfl wl_info rfl wl_all ?_))
  refine kI.mono ?_
  rintro e w2 ⟨rfl, rfl⟩
  go_wp2_with fail
  (try simp only [Exit.inBlock, Exit.then])
  refine bodyPost_ret (by simp [results, Tryz.results62, go_sem, b0, b1, b2, b3, b4]; try rfl) rfl ?_
  exact ⟨by with_reducible rfl, HF.out⟩

end Go.Proofs.YtiiihjihegilnaaGreatDoor.Ag
