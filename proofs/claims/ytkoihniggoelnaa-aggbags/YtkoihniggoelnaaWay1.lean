/- The contract of wayOf, kind by kind. -/
import Derived.Test.YtkoihniggoelnaaWay
namespace Go.Proofs.Ytkoihniggoelnaa
open Go.RowKit Go.Sort

theorem Grows.setCell {w W : World} (h : Grows w W) {a : Addr} (ha : w.heap.size ≤ a.block) (u : Value) : Grows w (W.setCell a u) := by
  obtain ⟨q, os, rfl⟩ := h
  refine ⟨q, ?_⟩
  unfold World.setCell grow
  simp only
  exact ⟨_, by rw [modify_append_right _ _ _ _ (show (w.drewN q).heap.size ≤ a.block from ha)]⟩
set_option maxHeartbeats 8000000 in
theorem wayOf_1 (w : World) (c : Int) : Calls Try.prog 25 #[.agg #[.int .i64 1, .int .i64 c]] w fun e w' => e = .returned (.agg #[.func (.func 40) #[] #[], .func (.func 36) #[] #[], .func (.func 37) #[] #[], .func (.func 41) #[] #[], .func (.func 39) #[] #[]]) ∧ Grows w w' := by
  obtain ⟨W, hW⟩ : ∃ W, W = (w.alloc (.cells #[.int .i64 1, .int .i64 c] 26)).alloc (.cells #[.nilFunc, .nilFunc, .nilFunc, .nilFunc, .nilFunc] 61) := ⟨_, rfl⟩
  have gW : Grows w W := by rw [hW]; exact (Grows.alloc _ _).trans (Grows.alloc _ _)
  have s0 : w.heap.size + 1 = (w.alloc (.cells #[.int .i64 1, .int .i64 c] 26)).heap.size := by simp
  have a0 : W.cell? ⟨w.heap.size, 0, none⟩ = some (.int .i64 1) := by rw [hW]; exact cell_alloc_sl _ (al_new _ _ _ rfl rfl)
  have b : ∀ i u, (#[Value.nilFunc, .nilFunc, .nilFunc, .nilFunc, .nilFunc])[i]? = some u → W.cell? ⟨w.heap.size + 1, i, none⟩ = some u := fun i u hi => by rw [hW]; exact al_new _ _ _ s0 hi
  have bf : ∀ i, W.frozen? ⟨w.heap.size + 1, i, none⟩ = false := fun i => by rw [hW, s0]; simp
  have kW := ways_any W
  have HB : Aside (∀ w1, Grows W w1 → (∀ o, (w1.alloc o).cell? ⟨w.heap.size, 0, none⟩ = some (.int .i64 1)) ∧ (∀ o i u, (#[Value.nilFunc, .nilFunc, .nilFunc, .nilFunc, .nilFunc])[i]? = some u → (w1.alloc o).cell? ⟨w.heap.size + 1, i, none⟩ = some u) ∧ ∀ o i, (w1.alloc o).frozen? ⟨w.heap.size + 1, i, none⟩ = false) := fun w1 g1 =>
    ⟨fun o => cell_up (g1.trans (Grows.alloc _ o)).below a0, fun o i u hi => cell_up (g1.trans (Grows.alloc _ o)).below (b i u hi), fun o i => by rw [(g1.trans (Grows.alloc _ o)).below.frozen (p := ⟨w.heap.size + 1, i, none⟩) (show w.heap.size + 1 < W.heap.size from World.block_lt_of_cell? W ⟨w.heap.size + 1, 0, none⟩ (b 0 _ rfl))]; exact bf i⟩
  have HG : Hid (Grows w W) := gW
  have HW : Hid _ := hW
  rw [hW] at kW
  clear gW s0 a0 b bf hW
  go_enter Try.func25, Try.ntmps25
  go_wp2_with fail
  refine kW.mono ?_
  rintro e w1 ⟨rfl, g1⟩
  rw [← HW.out] at g1
  clear kW
  obtain ⟨a0, b, bf⟩ := HB.out w1 g1
  have b0 := fun o => b o 0 _ rfl
  have b1 := fun o => b o 1 _ rfl
  have b2 := fun o => b o 2 _ rfl
  have b3 := fun o => b o 3 _ rfl
  have b4 := fun o => b o 4 _ rfl
  have x0 : (w1.alloc (.cells wl 68)).cell? ⟨w1.heap.size, 5, none⟩ = some (.func (.func 40) #[] #[]) := al_new _ _ _ rfl rfl
  have x1 : (w1.alloc (.cells wl 68)).cell? ⟨w1.heap.size, 6, none⟩ = some (.func (.func 36) #[] #[]) := al_new _ _ _ rfl rfl
  have x2 : (w1.alloc (.cells wl 68)).cell? ⟨w1.heap.size, 7, none⟩ = some (.func (.func 37) #[] #[]) := al_new _ _ _ rfl rfl
  have x3 : (w1.alloc (.cells wl 68)).cell? ⟨w1.heap.size, 8, none⟩ = some (.func (.func 41) #[] #[]) := al_new _ _ _ rfl rfl
  have x4 : (w1.alloc (.cells wl 68)).cell? ⟨w1.heap.size, 9, none⟩ = some (.func (.func 39) #[] #[]) := al_new _ _ _ rfl rfl
  have kI := within_any (w1.alloc (.cells wl 68)) 1 6
  rw [decide_eq_true (by decide)] at kI
  have hF : Grows w ((((((w1.alloc (.cells wl 68)).setCell ⟨w.heap.size + 1, 0, none⟩ (.func (.func 40) #[] #[])).setCell ⟨w.heap.size + 1, 1, none⟩ (.func (.func 36) #[] #[])).setCell ⟨w.heap.size + 1, 2, none⟩ (.func (.func 37) #[] #[])).setCell ⟨w.heap.size + 1, 3, none⟩ (.func (.func 41) #[] #[])).setCell ⟨w.heap.size + 1, 4, none⟩ (.func (.func 39) #[] #[])) := ((((((HG.out.trans g1).trans (Grows.alloc _ _)).setCell (a := ⟨w.heap.size + 1, 0, none⟩) (Nat.le_succ _) _).setCell (a := ⟨w.heap.size + 1, 1, none⟩) (Nat.le_succ _) _).setCell (a := ⟨w.heap.size + 1, 2, none⟩) (Nat.le_succ _) _).setCell (a := ⟨w.heap.size + 1, 3, none⟩) (Nat.le_succ _) _).setCell (a := ⟨w.heap.size + 1, 4, none⟩) (Nat.le_succ _) _
  have HF : Hid _ := hF
  clear b g1 hF
  go_wp2_with (first | (refine wpList_store_new rfl 68 (.tmp 3) (.tmp 4) rfl w1 #[.nilFunc, .nilFunc, .nilFunc, .nilFunc, .nilFunc, .nilFunc, .nilFunc, .nilFunc, .nilFunc, .nilFunc, .nilFunc, .nilFunc, .nilFunc, .nilFunc, .nilFunc, .nilFunc, .nilFunc, .nilFunc, .nilFunc, .nilFunc, .nilFunc, .nilFunc, .nilFunc, .nilFunc, .nilFunc, .nilFunc, .nilFunc, .nilFunc, .nilFunc, .nilFunc] wl rfl rfl rfl wl_info rfl wl_all ?_))
  refine kI.mono ?_
  rintro e w2 ⟨rfl, rfl⟩
  go_wp2_with fail
  (try simp only [Exit.inBlock, Exit.then])
  refine bodyPost_ret (by simp [results, Try.results25, go_sem, b0, b1, b2, b3, b4]; try rfl) rfl ?_
  exact ⟨by with_reducible rfl, HF.out⟩
end Go.Proofs.Ytkoihniggoelnaa
