/- Of no net, no Seen, no Timers: nothing. -/
import Derived.Test.YtnkllgpibmofiaaOwV
import Derived.Test.YtnkllgpibmofiaaNtq
namespace Go.Proofs.Ytnkllgpibmofiaa
open Go.RowKit Go.Maps Go.Sort
set_option linter.unusedVariables false

theorem waiting_nil (w : World) : Calls Try.prog 22 #[.pointer none] w fun e w' => e = .returned (.int .i64 0) ∧ w' = w := by
  go_enter Try.func22, Try.ntmps22
  go_wp2_with fail
  go_ret
  exact ⟨rfl, rfl⟩
theorem has_nil (w : World) (i : Int) : Calls Try.prog 36 #[.pointer none, .int .i64 i] w fun e w' => e = .returned (.bool false) ∧ w' = w := by
  by_cases h0 : 0 ≤ i
  · have h1 : ¬ i < 0 := by omega
    go_enter Try.func36, Try.ntmps36
    go_wp2_with (go_at_call 22; refine (waiting_nil _).mono ?_; rintro e w1 ⟨rfl, hw1⟩; have hw1 := hw1.symm; subst hw1)
    go_ret
    exact ⟨by show Ending.returned (.bool (decide (i < 0))) = _; rw [decide_eq_false (by omega)], rfl⟩
  · have h1 : i < 0 := by omega
    go_enter Try.func36, Try.ntmps36
    go_wp2_with fail
    go_ret
    exact ⟨rfl, rfl⟩
theorem lose_nil (w : World) (i : Int) : Calls Try.prog 15 #[.pointer none, .int .i64 i] w fun e w' => e = .returned (.bool false) ∧ w' = w := by
  go_enter Try.func15, Try.ntmps15
  go_wp2_with (go_at_call 36; refine (has_nil _ _).mono ?_; rintro e w1 ⟨he1, hw1⟩; have hw1 := hw1.symm; subst he1; subst hw1)
  go_ret
  exact ⟨rfl, rfl⟩
theorem twice_nil (w : World) (i : Int) : Calls Try.prog 17 #[.pointer none, .int .i64 i] w fun e w' => e = .returned (.bool false) ∧ w' = w := by
  go_enter Try.func17, Try.ntmps17
  go_wp2_with (go_at_call 36; refine (has_nil _ _).mono ?_; rintro e w1 ⟨he1, hw1⟩; have hw1 := hw1.symm; subst he1; subst hw1)
  go_ret
  exact ⟨rfl, rfl⟩
theorem fresh_nil (w : World) (f id : Int) : Calls Try.prog 25 #[.pointer none, .int .i64 f, .int .u64 id] w fun e w' => e = .returned (.bool false) ∧ w' = w := by
  go_enter Try.func25, Try.ntmps25
  go_wp2_with fail
  go_ret
  exact ⟨rfl, rfl⟩
theorem set_nil (w : World) (id at_ : Int) : Calls Try.prog 28 #[.pointer none, .int .u64 id, .int .i64 at_] w fun e w' => e = .returned (.tuple #[]) ∧ w' = w := by
  go_enter Try.func28, Try.ntmps28
  go_wp2_with fail
  (try simp only [Exit.inBlock, Exit.then])
  refine bodyPost_ret (results_none rfl _ _ _) rfl ?_
  exact ⟨rfl, rfl⟩
theorem stop_nil (w : World) (id : Int) : Calls Try.prog 30 #[.pointer none, .int .u64 id] w fun e w' => e = .returned (.bool false) ∧ w' = w := by
  go_enter Try.func30, Try.ntmps30
  go_wp2_with fail
  go_ret
  exact ⟨rfl, rfl⟩
theorem due_nil (w : World) (i : Int) : Calls Try.prog 32 #[.pointer none, .int .i64 i] w fun e w' => e = .returned nl ∧ w' = w := by
  go_enter Try.func32, Try.ntmps32
  go_wp2_with fail
  go_ret
  exact ⟨rfl, rfl⟩
set_option maxRecDepth 20000 in
set_option maxHeartbeats 4000000 in
theorem send_nil (w : World) (M : Array Value) (hM : M.size = 41) : Calls Try.prog 13 #[.pointer none, .agg M] w fun e w' => e = .returned (.int .u64 0) ∧ Below w.heap.size w w' := by
  go_enter Try.func13, Try.ntmps13
  go_wp2_with fail
  go_ret
  exact ⟨rfl, (Below.refl _ _).alloc (Nat.le_refl _) _⟩
set_option maxRecDepth 20000 in
set_option maxHeartbeats 4000000 in
theorem peek_nil (w : World) (i : Int) : Calls Try.prog 23 #[.pointer none, .int .i64 i] w fun e w' => e = .returned (.tuple #[.agg ZM, .bool false]) ∧ Grows w w' := by
  have HI : Hid ((Try.prog.info? 54).map (·.size) = some ZM.size) := hide (Try.info_msg)
  have H1 := hide ZM_pl.one
  go_enter Try.func23, Try.ntmps23
  go_wp2_with fail
  go_at_call 36
  refine (has_nil _ _).mono ?_
  rintro e w1 ⟨he1, hw1⟩
  have hw1 := hw1.symm
  subst he1
  subst hw1
  go_wp2_with (refine wpList_store_row rfl 54 (.tmp 4) (.tmp 10) rfl w.heap.size ZM rfl rfl 54 ZM (BxA.new _ _ _) HI.out rfl H1.out ?_)
  refine bodyPost_ret (results_two rfl _ _ w.heap.size 54 ZM _ (.bool false) rfl rfl (setRow_heap _ _ _ ZM _ _ (BxA.new _ _ _)) Try.underlying54 rfl HI.out) rfl ⟨rfl, ?_⟩
  exact (Grows.alloc w _).setRow ZM (Nat.le_refl _)
set_option maxRecDepth 20000 in
set_option maxHeartbeats 4000000 in
theorem deliver_nil (w : World) (i : Int) :
    Calls Try.prog 19 #[.pointer none, .int .i64 i] w fun e w' => e = .returned (.tuple #[.agg ZM, .bool false]) ∧ Grows w w' := by
  have kP := peek_nil (w.alloc (.cells ZM 54)) i
  have hnb : ∀ w1, Grows (w.alloc (.cells ZM 54)) w1 → BxA w1 w.heap.size 54 ZM := fun w1 hg => BxA.up (BxA.new w 54 ZM) hg.below
  have HI : Hid ((Try.prog.info? 54).map (·.size) = some ZM.size) := hide (Try.info_msg)
  have H1 := hide ZM_pl.one
  have HSZ := hide ZM_pl.sz
  have kP' : ∀ X, X = w.alloc (.cells (List.toArray ((Value.int .i64 0) :: (Value.int .i64 0) :: (Value.int .i64 0) :: (Value.int .u64 0) :: (Value.int .u64 0) :: (Value.int .u64 0) :: (Value.int .i64 0) :: (Value.int .u64 0) :: (Value.int .i64 0) :: (Value.int .i64 0) :: (Value.slice none 0 0) :: (Value.slice none 0 0) :: (Value.int .i64 0) :: (Value.int .i64 0) :: (Value.int .i64 0) :: (Value.int .i64 0) :: (Value.slice none 0 0) :: (Value.int .i64 0) :: (Value.int .i64 0) :: (Value.slice none 0 0) :: (Value.int .i64 0) :: (Value.slice none 0 0) :: (Value.slice none 0 0) :: (Value.int .i64 0) :: (Value.int .i64 0) :: (Value.int .i64 0) :: (Value.int .i64 0) :: (Value.int .i64 0) :: (Value.int .i64 0) :: (Value.int .i64 0) :: (Value.int .i64 0) :: (Value.int .i64 0) :: (Value.bool false) :: (Value.int .i64 0) :: (Value.int .i64 0) :: (Value.int .i64 0) :: (Value.int .i64 0) :: (Value.int .i64 0) :: (Value.int .i64 0) :: (Value.slice none 0 0) :: (Value.slice none 0 0) :: [])) 54) → (Calls Try.prog 23 #[.pointer none, .int .i64 i] X fun e w' => e = .returned (.tuple #[.agg ZM, .bool false]) ∧ Grows X w') ∧ ∀ w1, Grows X w1 → BxA w1 w.heap.size 54 ZM := fun X e => by subst e; exact ⟨kP, hnb⟩
  generalize ZM = M at *
  clear hnb kP
  go_enter Try.func19, Try.ntmps19
  go_wp2_with fail
  go_at_call 23
  refine (kP' _ rfl).1.mono ?_
  rintro e w1 ⟨he1, hg1⟩
  subst he1
  have HA1 := hide ((kP' _ rfl).2 w1 hg1)
  have HGW : Hid (Grows w w1) := hide ((Grows.alloc w _).trans hg1)
  clear hg1 kP'
  go_wp2_with (refine wpList_store_row rfl 54 (.tmp 6) (.tmp 12) rfl w1.heap.size M rfl rfl 54 _ (BxA.new _ _ _) HI.out (by rw [HSZ.out]; rfl) H1.out ?_)
  obtain ⟨W, hW⟩ : ∃ W, W = (w1.alloc (.cells (List.toArray ((Value.int .i64 0) :: (Value.int .i64 0) :: (Value.int .i64 0) :: (Value.int .u64 0) :: (Value.int .u64 0) :: (Value.int .u64 0) :: (Value.int .i64 0) :: (Value.int .u64 0) :: (Value.int .i64 0) :: (Value.int .i64 0) :: (Value.slice none 0 0) :: (Value.slice none 0 0) :: (Value.int .i64 0) :: (Value.int .i64 0) :: (Value.int .i64 0) :: (Value.int .i64 0) :: (Value.slice none 0 0) :: (Value.int .i64 0) :: (Value.int .i64 0) :: (Value.slice none 0 0) :: (Value.int .i64 0) :: (Value.slice none 0 0) :: (Value.slice none 0 0) :: (Value.int .i64 0) :: (Value.int .i64 0) :: (Value.int .i64 0) :: (Value.int .i64 0) :: (Value.int .i64 0) :: (Value.int .i64 0) :: (Value.int .i64 0) :: (Value.int .i64 0) :: (Value.int .i64 0) :: (Value.bool false) :: (Value.int .i64 0) :: (Value.int .i64 0) :: (Value.int .i64 0) :: (Value.int .i64 0) :: (Value.int .i64 0) :: (Value.int .i64 0) :: (Value.slice none 0 0) :: (Value.slice none 0 0) :: [])) 54)).setRow w1.heap.size M := ⟨_, rfl⟩
  have hWB : BxA W w1.heap.size 54 M := by rw [hW]; exact setRow_heap _ _ _ M _ _ (BxA.new _ _ _)
  have hWA : BxA W w.heap.size 54 M := by rw [hW]; exact BxA.setRow (bx_alloc2 HA1.out _) (by have := HA1.out.lt; omega)
  have hGW : Grows w W := by rw [hW]; exact (HGW.out.trans (Grows.alloc _ _)).setRow M (by have := HA1.out.lt; omega)
  rw [← hW]
  clear hW
  have HWB := hide hWB
  have HWA := hide hWA
  have HWD : Hid (Grows w W.drew) := hide (hGW.trans (Grows.drew W))
  clear hWB hWA hGW
  refine wp_region_any (by kernel_rfl) ?_
  refine wpAny_take (i := 1) (v := .bool false) rfl (by kernel_rfl) (by kernel_rfl) (by kernel_rfl) (fun _ _ _ h => h) (Or.inl ⟨by rfl, ?hy1⟩) ?_
  case hy1 => intro w; go_simp; first | done | with_reducible rfl
  refine wpAny_take (i := 2) (v := .bool false) rfl (by kernel_rfl) (by kernel_rfl) (by kernel_rfl) (fun _ _ _ h => h) (Or.inl ⟨by rfl, ?hy2⟩) ?_
  case hy2 => intro w; go_simp; first | done | with_reducible rfl
  refine wpAny_take (i := 3) (v := undef) rfl (by kernel_rfl) (by kernel_rfl) (by kernel_rfl) (fun _ _ _ h => h) (Or.inr ⟨by kernel_rfl, rfl⟩) ?_
  refine wpAny_take (i := 4) (v := undef) rfl (by kernel_rfl) (by kernel_rfl) (by kernel_rfl) (fun _ _ _ h => h) (Or.inr ⟨by kernel_rfl, rfl⟩) ?_
  refine wpAny_take (i := 5) (v := undef) rfl (by kernel_rfl) (by kernel_rfl) (by kernel_rfl) (fun _ _ _ h => h) (Or.inr ⟨by kernel_rfl, rfl⟩) ?_
  refine wpAny_take (i := 6) (v := .bool false) rfl (by kernel_rfl) (by kernel_rfl) (by kernel_rfl) (fun _ _ _ h => h) (Or.inl ⟨by rfl, ?hy3⟩) ?_
  case hy3 => intro w; go_simp; first | done | with_reducible rfl
  simp only [Act.put, List.getElem_toArray, List.getElem_cons_succ, List.getElem_cons_zero, List.setIfInBounds_toArray, List.set_cons_succ, List.set_cons_zero]
  refine wpAny_ready (rs := [0]) (by kernel_rfl) (by simp) ?_
  refine AllReady.cons rfl (fun K hK => ?_) AllReady.nil
  refine step_loadR rfl 54 (.tmp 6) rfl w1.heap.size rfl 54 M _ (show BxA W.drew _ _ _ from HWB.out) Try.underlying54 rfl HI.out ?_
  refine hK _ _ ?_
  clear hK K
  refine wpAny_ready (rs := [7]) (by kernel_rfl) (by simp) ?_
  refine AllReady.cons rfl (fun K hK => ?_) AllReady.nil
  refine step_storeR rfl 54 (.tmp 4) (.tmp 14) rfl w.heap.size M rfl rfl 54 M (show BxA W.drew _ _ _ from HWA.out) HI.out rfl H1.out ?_
  refine hK _ _ ?_
  clear hK K
  refine wpAny_take (i := 8) (v := ?_) rfl (by kernel_rfl) (by kernel_rfl) (by kernel_rfl) (fun _ _ _ h => h) (Or.inl ⟨by rfl, ?hy4⟩) ?_
  case hy4 => intro w; go_simp; first | done | with_reducible rfl
  refine wpAny_done (by kernel_rfl) ?_ _
  go_wp2_with fail
  refine bodyPost_ret (results_two rfl _ _ w.heap.size 54 M _ (.bool false) rfl rfl (setRow_heap _ _ _ M _ _ (show BxA W.drew _ _ _ from HWA.out)) Try.underlying54 rfl HI.out) rfl ⟨rfl, ?_⟩
  exact HWD.out.setRow M (Nat.le_refl _)
end Go.Proofs.Ytnkllgpibmofiaa
