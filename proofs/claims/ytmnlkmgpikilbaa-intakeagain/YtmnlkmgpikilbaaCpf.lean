/- A fact without lists is copied; a time's span. -/
import Derived.Test.YtmnlkmgpikilbaaGro
namespace Go.Proofs.Ytmnlkmgpikilbaa
open Go.RowKit Go.Maps Go.Sort
set_option linter.unusedVariables false

theorem bx_up {w w' : World} {g : Nat} {t : TypeId} {cs : Array Value} (h : BxA w g t cs) (hb : Below w.heap.size w w') : BxA w' g t cs := by
  unfold BxA at h ⊢
  rw [hb.block g (Array.getElem?_eq_some_iff.1 h).1]
  exact h
theorem Try.info_fct : (Try.prog.info? 38).map (·.size) = some 3 := by kernel_rfl
abbrev nl : Value := .slice none 0 0
abbrev fc (t : Int) : Array Value := #[.int .i64 t, nl, nl]
theorem cloneS_nil (w : World) : Calls Try.prog 46 #[nl] w fun e w' => e = .returned nl ∧ w' = w := by
  have hnl : (binOp .eql 35 (.slice none 0 0) (.slice none 0 0)).run Try.prog w = .ok (.bool true) w := run_eql_nil_slice w 35 9 none 0 0 0 0 Try.underlying35
  go_enter Try.func46, Try.ntmps46
  go_wp2_with fail
  go_ret
  exact ⟨rfl, rfl⟩
theorem cloneI_nil (w : World) : Calls Try.prog 47 #[nl] w fun e w' => e = .returned nl ∧ w' = w := by
  have hnl : (binOp .eql 36 (.slice none 0 0) (.slice none 0 0)).run Try.prog w = .ok (.bool true) w := run_eql_nil_slice w 36 2 none 0 0 0 0 Try.underlying36
  go_enter Try.func47, Try.ntmps47
  go_wp2_with fail
  go_ret
  exact ⟨rfl, rfl⟩
set_option maxRecDepth 20000 in
set_option maxHeartbeats 1000000 in
theorem copied_plain (t : Int) (w : World) : Calls Try.prog 38 #[.agg (fc t)] w fun e w' => e = .returned (.agg (fc t)) ∧ Grows w w' := by
  obtain ⟨W, hW⟩ : ∃ W, W = (w.alloc (.cells (fc t) 38)).alloc (.cells #[.int .i64 0, nl, nl] 38) := ⟨_, rfl⟩
  have hb1 : BxA W w.heap.size 38 (fc t) := by rw [hW]; exact bx_up (BxA.new _ _ _) ((Below.refl _ _).alloc (Nat.le_refl _) _)
  have hb2 : BxA W (w.heap.size + 1) 38 #[.int .i64 0, nl, nl] := by
    have := BxA.new (w.alloc (.cells (fc t) 38)) 38 #[.int .i64 0, nl, nl]
    rw [hW, show w.heap.size + 1 = (w.alloc (.cells (fc t) 38)).heap.size by simp]
    exact this
  have hgW : Grows w W := by rw [hW]; exact (Grows.alloc w _).trans (Grows.alloc _ _)
  have z0 := fun nq os => gro_cell (hb1.cell 0 _ rfl) nq os
  have z1 := fun nq os => gro_cell (hb1.cell 1 _ rfl) nq os
  have z2 := fun nq os => gro_cell (hb1.cell 2 _ rfl) nq os
  have kS : ∀ nq os, Calls Try.prog 46 #[nl] (grow (World.drewN W nq) os) fun e w' => e = .returned nl ∧ ∃ q os', w' = grow ((grow (World.drewN W nq) os).drewN q) os' := fun nq os => (cloneS_nil _).mono fun _ _ ⟨h1, h2⟩ => ⟨h1, 0, #[], by rw [h2, grow_empty]; rfl⟩
  have kI : ∀ nq os, Calls Try.prog 47 #[nl] (grow (World.drewN W nq) os) fun e w' => e = .returned nl ∧ ∃ q os', w' = grow ((grow (World.drewN W nq) os).drewN q) os' := fun nq os => (cloneI_nil _).mono fun _ _ ⟨h1, h2⟩ => ⟨h1, 0, #[], by rw [h2, grow_empty]; rfl⟩
  have HB2 := hide hb2
  have HGW := hide hgW
  clear hb1 hb2 hgW
  go_enter Try.func38, Try.ntmps38
  go_wp2_with fail
  rw [← hW]
  clear hW
  refine wp_region_first_grown 9 1 (by kernel_rfl) rfl (by kernel_rfl) (by kernel_rfl) (by kernel_rfl) (by kernel_rfl) ?_
  simp only [List.take_succ_cons, List.take_zero]
  repeat (go_big_quiet_step (first | (go_at_call 46; refine Calls.grown_of (kS _ _)) | (go_at_call 47; refine Calls.grown_of (kI _ _)) | fail))
  refine wpQuiet_nil ?_
  intro V hw'
  obtain ⟨⟨nq, osq⟩, hw''⟩ := hw'
  have HG : Hid (Grows W V) := by apply hide; rw [hw'']; exact ⟨nq, osq, rfl⟩
  clear hw'' z0 z1 z2 kS kI
  refine wpAny_ready (rs := [9]) (by kernel_rfl) (by simp) ?_
  refine AllReady.cons rfl (fun K hK => ?_) AllReady.nil
  have HBV := hide (bx_up HB2.out HG.out.below)
  have d0 : V.cell? ⟨w.heap.size + 1, 0, none⟩ = some (.int .i64 0) := HBV.out.cell 0 _ rfl
  have d1 : V.cell? ⟨w.heap.size + 1, 1, none⟩ = some nl := HBV.out.cell 1 _ rfl
  have d2 : V.cell? ⟨w.heap.size + 1, 2, none⟩ = some nl := HBV.out.cell 2 _ rfl
  have f0 := HBV.out.free 0
  have f1 := HBV.out.free 1
  have f2 := HBV.out.free 2
  go_simp
  refine hK _ _ ?_
  clear hK K d0 d1 d2 f0 f1 f2
  refine wpAny_done (by kernel_rfl) ?_ _
  go_wp2_with fail
  have hX : BxA (((V.setCell ⟨w.heap.size + 1, 0, none⟩ (.int .i64 t)).setCell ⟨w.heap.size + 1, 1, none⟩ nl).setCell ⟨w.heap.size + 1, 2, none⟩ nl) (w.heap.size + 1) 38 (fc t) := ((HBV.out.set 0 _).set 1 _).set 2 _
  have hG : Grows w (((V.setCell ⟨w.heap.size + 1, 0, none⟩ (.int .i64 t)).setCell ⟨w.heap.size + 1, 1, none⟩ nl).setCell ⟨w.heap.size + 1, 2, none⟩ nl) := (((HGW.out.trans HG.out).set _ (by show w.heap.size ≤ w.heap.size + 1; omega)).set _ (by show w.heap.size ≤ w.heap.size + 1; omega)).set _ (by show w.heap.size ≤ w.heap.size + 1; omega)
  exact bodyPost_ret (results_cell_row rfl _ _ (w.heap.size + 1) 38 (fc t) (0, 0) _ rfl hX Try.underlying38 rfl Try.info_fct) rfl ⟨rfl, hG⟩
theorem spanOf_any (w : World) (t l : Int) (h0 : 0 ≤ t) (h1 : t < 1099511627776) (hl : 1 ≤ l) (hl2 : l ≤ 1099511627776) : Calls Try.prog 48 #[.int .i64 t, .int .i64 l] w fun e w' => e = .returned (.agg #[.int .i64 (t / l * l), .int .i64 (min (t / l * l + l) 1099511627776)]) ∧ Grows w w' := by
  have e1 : t.tdiv l = t / l := Int.tdiv_eq_ediv_of_nonneg h0
  have q0 : 0 ≤ t / l := Int.ediv_nonneg h0 (by omega)
  have q1 : t / l * l ≤ t := Int.ediv_mul_le t (by omega)
  have q3 : 0 ≤ t / l * l := Int.mul_nonneg q0 (by omega)
  obtain ⟨m, hm⟩ : ∃ m, t / l * l = m := ⟨_, rfl⟩
  rw [hm] at q1 q3 ⊢
  have hl0 : ¬ l = 0 := by omega
  have hw0 : wrap64 (t / l) = t / l := by
    have q2 : t / l ≤ t := Int.ediv_le_self l h0
    rw [← IntWalk.i64_left, IntKind.wrap_i64]
    omega
  have hw1 : wrap64 m = m := by rw [← IntWalk.i64_left, IntKind.wrap_i64]; omega
  have hw2 : wrap64 (m + l) = m + l := by rw [← IntWalk.i64_left, IntKind.wrap_i64]; omega
  clear q0 q1 q3
  by_cases hmx : 1099511627776 < m + l
  · have e2 : min (m + l) 1099511627776 = 1099511627776 := by omega
    rw [e2]
    clear e2
    go_enter Try.func48, Try.ntmps48
    go_wp2_with fail
    refine bodyPost_ret (by simp [results, Try.results48, go_sem]; try rfl) rfl ⟨rfl, ?_⟩
    exact Grows.alloc w _
  · have e2 : min (m + l) 1099511627776 = m + l := by omega
    rw [e2]
    clear e2
    go_enter Try.func48, Try.ntmps48
    go_wp2_with fail
    refine bodyPost_ret (by simp [results, Try.results48, go_sem]; try rfl) rfl ⟨rfl, ?_⟩
    exact Grows.alloc w _
end Go.Proofs.Ytmnlkmgpikilbaa
