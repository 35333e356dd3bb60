/- Of a message that isn't there: Deliver. -/
import Derived.Test.YtnkllgpibmofiaaNtn
namespace Go.Proofs.Ytnkllgpibmofiaa
open Go.RowKit Go.Maps Go.Sort
set_option linter.unusedVariables false

set_option maxRecDepth 20000 in
set_option maxHeartbeats 4000000 in
theorem deliver_none (w : World) (n sent : Nat) (F : Nat → Prop) (v : Value) (h : NtZ w n F sent v []) :
    Calls Try.prog 19 #[.pointer (some ⟨n, 0, none⟩), .int .i64 0] w fun e w' => e = .returned (.tuple #[.agg ZM, .bool false]) ∧ Grows w w' := by
  have kP := peek_none (w.alloc (.cells ZM 54)) n sent F v (h.below ((Below.refl _ _).alloc (Nat.le_refl _) _))
  have hnb : ∀ w1, Grows (w.alloc (.cells ZM 54)) w1 → BxA w1 w.heap.size 54 ZM := fun w1 hg => BxA.up (BxA.new w 54 ZM) hg.below
  have HI : Hid ((Try.prog.info? 54).map (·.size) = some ZM.size) := hide (Try.info_msg)
  have H1 := hide ZM_pl.one
  have HSZ := hide ZM_pl.sz
  have kP' : ∀ X, X = w.alloc (.cells (List.toArray ((Value.int .i64 0) :: (Value.int .i64 0) :: (Value.int .i64 0) :: (Value.int .u64 0) :: (Value.int .u64 0) :: (Value.int .u64 0) :: (Value.int .i64 0) :: (Value.int .u64 0) :: (Value.int .i64 0) :: (Value.int .i64 0) :: (Value.slice none 0 0) :: (Value.slice none 0 0) :: (Value.int .i64 0) :: (Value.int .i64 0) :: (Value.int .i64 0) :: (Value.int .i64 0) :: (Value.slice none 0 0) :: (Value.int .i64 0) :: (Value.int .i64 0) :: (Value.slice none 0 0) :: (Value.int .i64 0) :: (Value.slice none 0 0) :: (Value.slice none 0 0) :: (Value.int .i64 0) :: (Value.int .i64 0) :: (Value.int .i64 0) :: (Value.int .i64 0) :: (Value.int .i64 0) :: (Value.int .i64 0) :: (Value.int .i64 0) :: (Value.int .i64 0) :: (Value.int .i64 0) :: (Value.bool false) :: (Value.int .i64 0) :: (Value.int .i64 0) :: (Value.int .i64 0) :: (Value.int .i64 0) :: (Value.int .i64 0) :: (Value.int .i64 0) :: (Value.slice none 0 0) :: (Value.slice none 0 0) :: [])) 54) → (Calls Try.prog 23 #[.pointer (some ⟨n, 0, none⟩), .int .i64 0] X fun e w' => e = .returned (.tuple #[.agg ZM, .bool false]) ∧ Grows X w') ∧ ∀ w1, Grows X w1 → BxA w1 w.heap.size 54 ZM := fun X e => by subst e; exact ⟨kP, hnb⟩
  generalize ZM = M at *
  clear h hnb kP
  go_enter Try.func19, Try.ntmps19
  go_wp2_with fail
  go_at_call 23
  refine (kP' _ rfl).1.mono ?_
  rintro e w1 ⟨he1, hg1⟩
  subst he1
  have HA1 := hide ((kP' _ rfl).2 w1 hg1)
  have HGW : Hid (Grows w w1) := hide ((Grows.alloc w _).trans hg1)
  clear hg1 kP'
  go_wp2_with (refine wpList_store_row rfl 54 (.tmp 6) (.tmp 12) rfl w1.heap.size M rfl rfl 54 _ (BxA.new _ _ _) HI.out (by rw [HSZ.out]; rfl) H1.out ?_)
  obtain ⟨W, hW⟩ : ∃ W, W = (w1.alloc (.cells (List.toArray ((Value.int .i64 0) :: (Value.int .i64 0) :: (Value.int .i64 0) :: (Value.int .u64 0) :: (Value.int .u64 0) :: (Value.int .u64 0) :: (Value.int .i64 0) :: (Value.int .u64 0) :: (Value.int .i64 0) :: (Value.int .i64 0) :: (Value.slice none 0 0) :: (Value.slice none 0 0) :: (Value.int .i64 0) :: (Value.int .i64 0) :: (Value.int .i64 0) :: (Value.int .i64 0) :: (Value.slice none 0 0) :: (Value.int .i64 0) :: (Value.int .i64 0) :: (Value.slice none 0 0) :: (Value.int .i64 0) :: (Value.slice none 0 0) :: (Value.slice none 0 0) :: (Value.int .i64 0) :: (Value.int .i64 0) :: (Value.int .i64 0) :: (Value.int .i64 0) :: (Value.int .i64 0) :: (Value.int .i64 0) :: (Value.int .i64 0) :: (Value.int .i64 0) :: (Value.int .i64 0) :: (Value.bool false) :: (Value.int .i64 0) :: (Value.int .i64 0) :: (Value.int .i64 0) :: (Value.int .i64 0) :: (Value.int .i64 0) :: (Value.int .i64 0) :: (Value.slice none 0 0) :: (Value.slice none 0 0) :: [])) 54)).setRow w1.heap.size M := ⟨_, rfl⟩
  have hWB : BxA W w1.heap.size 54 M := by rw [hW]; exact setRow_heap _ _ _ M _ _ (BxA.new _ _ _)
  have hWA : BxA W w.heap.size 54 M := by rw [hW]; exact BxA.setRow (bx_alloc2 HA1.out _) (by have := HA1.out.lt; omega)
  have hGW : Grows w W := by rw [hW]; exact (HGW.out.trans (Grows.alloc _ _)).setRow M (by have := HA1.out.lt; omega)
  rw [← hW]
  clear hW
  have HWB := hide hWB
  have HWA := hide hWA
  have HWD : Hid (Grows w W.drew) := hide (hGW.trans (Grows.drew W))
  clear hWB hWA hGW
  refine wp_region_any (by kernel_rfl) ?_
  refine wpAny_take (i := 1) (v := .bool false) rfl (by kernel_rfl) (by kernel_rfl) (by kernel_rfl) (fun _ _ _ h => h) (Or.inl ⟨by rfl, ?hy1⟩) ?_
  case hy1 => intro w; go_simp; first | done | with_reducible rfl
  refine wpAny_take (i := 2) (v := .bool false) rfl (by kernel_rfl) (by kernel_rfl) (by kernel_rfl) (fun _ _ _ h => h) (Or.inl ⟨by rfl, ?hy2⟩) ?_
  case hy2 => intro w; go_simp; first | done | with_reducible rfl
  refine wpAny_take (i := 3) (v := undef) rfl (by kernel_rfl) (by kernel_rfl) (by kernel_rfl) (fun _ _ _ h => h) (Or.inr ⟨by kernel_rfl, rfl⟩) ?_
  refine wpAny_take (i := 4) (v := undef) rfl (by kernel_rfl) (by kernel_rfl) (by kernel_rfl) (fun _ _ _ h => h) (Or.inr ⟨by kernel_rfl, rfl⟩) ?_
  refine wpAny_take (i := 5) (v := undef) rfl (by kernel_rfl) (by kernel_rfl) (by kernel_rfl) (fun _ _ _ h => h) (Or.inr ⟨by kernel_rfl, rfl⟩) ?_
  refine wpAny_take (i := 6) (v := .bool false) rfl (by kernel_rfl) (by kernel_rfl) (by kernel_rfl) (fun _ _ _ h => h) (Or.inl ⟨by rfl, ?hy3⟩) ?_
  case hy3 => intro w; go_simp; first | done | with_reducible rfl
  simp only [Act.put, List.getElem_toArray, List.getElem_cons_succ, List.getElem_cons_zero, List.setIfInBounds_toArray, List.set_cons_succ, List.set_cons_zero]
  refine wpAny_ready (rs := [0]) (by kernel_rfl) (by simp) ?_
  refine AllReady.cons rfl (fun K hK => ?_) AllReady.nil
  refine step_loadR rfl 54 (.tmp 6) rfl w1.heap.size rfl 54 M _ (show BxA W.drew _ _ _ from HWB.out) Try.underlying54 rfl HI.out ?_
  refine hK _ _ ?_
  clear hK K
  refine wpAny_ready (rs := [7]) (by kernel_rfl) (by simp) ?_
  refine AllReady.cons rfl (fun K hK => ?_) AllReady.nil
  refine step_storeR rfl 54 (.tmp 4) (.tmp 14) rfl w.heap.size M rfl rfl 54 M (show BxA W.drew _ _ _ from HWA.out) HI.out rfl H1.out ?_
  refine hK _ _ ?_
  clear hK K
  refine wpAny_take (i := 8) (v := ?_) rfl (by kernel_rfl) (by kernel_rfl) (by kernel_rfl) (fun _ _ _ h => h) (Or.inl ⟨by rfl, ?hy4⟩) ?_
  case hy4 => intro w; go_simp; first | done | with_reducible rfl
  refine wpAny_done (by kernel_rfl) ?_ _
  go_wp2_with fail
  refine bodyPost_ret (results_two rfl _ _ w.heap.size 54 M _ (.bool false) rfl rfl (setRow_heap _ _ _ M _ _ (show BxA W.drew _ _ _ from HWA.out)) Try.underlying54 rfl HI.out) rfl ⟨rfl, ?_⟩
  exact HWD.out.setRow M (Nat.le_refl _)
end Go.Proofs.Ytnkllgpibmofiaa
