/- The walk of FilterChecks. -/
import Derived.Test.YtlfkhinmncbkcaaAwake
import Derived.Test.YtlfkhinmncbkcaaRChk
namespace Go.Proofs.Ytlfkhinmncbkcaa
open Go.RowKit Go.Sort

set_option maxHeartbeats 8000000 in
theorem checks_walk (w : World) (D M : Int) (t : Tr) (h : t.Ok w) (_ : t.Lim) :
    Calls Try.prog 3 #[.agg #[.int .i64 D, .int .i64 M], .agg #[.int .i64 t.k, .int .i64 t.d, t.tv, .int .i64 t.lo, .int .i64 t.hi, t.kv]] w fun e w' => e = .returned (.bool true) ∧ Below w.heap.size w w' := by
  obtain ⟨at', nt, ct, ak, nk, ck, e1, e2, -, -, -, -⟩ := h.lens
  obtain ⟨W, hW⟩ : ∃ W, W = (w.alloc (.cells #[.int .i64 D, .int .i64 M] 23)).alloc (.cells #[.int .i64 t.k, .int .i64 t.d, t.tv, .int .i64 t.lo, .int .i64 t.hi, t.kv] 27) := ⟨_, rfl⟩
  have gW : Grows w W := by rw [hW]; exact (Grows.alloc _ _).trans (Grows.alloc _ _)
  have zW : W.heap.size = w.heap.size + 2 := by rw [hW]; simp
  have hbox : ∀ w5, Below W.heap.size W w5 → (w5.cell? ⟨w.heap.size, 0, none⟩ = some (.int .i64 D) ∧ w5.cell? ⟨w.heap.size, 1, none⟩ = some (.int .i64 M)) ∧ ∀ c u, (#[Value.int .i64 t.k, .int .i64 t.d, t.tv, .int .i64 t.lo, .int .i64 t.hi, t.kv])[c]? = some u → w5.cell? ⟨w.heap.size + 1, c, none⟩ = some u := fun w5 h5 => by
    refine ⟨⟨?_, ?_⟩, fun c u hc => ?_⟩
    · rw [h5.cell (by rw [zW]; show w.heap.size < _; omega), hW]; simp
    · rw [h5.cell (by rw [zW]; show w.heap.size < _; omega), hW]; simp
    · rw [h5.cell (by rw [zW]; show w.heap.size + 1 < _; omega), hW]
      have hs : w.heap.size + 1 = (w.alloc (.cells #[.int .i64 D, .int .i64 M] 23)).heap.size := by simp
      rw [hs]
      simpa using hc
  have kA := awake_any W
  have HBX : Aside _ := hbox
  have HG : Hid (Grows w W) := gW
  have HW : Hid _ := hW
  have HO : Hid (t.Ok W) := h.up gW.below
  have HE : Hid (t.tv = .slice at' nt ct ∧ t.kv = .slice ak nk ck) := ⟨e1, e2⟩
  have mixed : Try.prog.follows .mixedOrders = true := by kernel_rfl
  rw [hW, e1, e2] at kA
  rw [e1, e2] at HW ⊢
  clear h gW hW hbox zW e1 e2
  go_enter Try.func3, Try.ntmps3
  go_wp2_with fail
  refine kA.mono ?_
  rintro e V ⟨rfl, bV⟩
  rw [← HW.out] at bV
  have okV := HO.out.up bV
  have kC : ∀ nq os, Calls Try.prog 10 #[.agg #[.int .i64 D, .int .i64 M], .agg #[.int .i64 t.k, .int .i64 t.d, t.tv, .int .i64 t.lo, .int .i64 t.hi, t.kv]] (grow (V.drewN nq) os) fun e w' => e = .returned (.int .i64 (errB (t.may D M))) ∧ ∃ q os', w' = grow ((grow (V.drewN nq) os).drewN q) os' := fun nq os =>
    check_any _ D M t (okV.up (below_grown_sl _ V nq os (Nat.le_refl _)))
  have kR : ∀ nq os, Calls Try.prog 11 #[.agg #[.int .i64 D, .int .i64 M], .agg #[.int .i64 t.k, .int .i64 t.d, t.tv, .int .i64 t.lo, .int .i64 t.hi, t.kv]] (grow (V.drewN nq) os) fun e w' => e = .returned (.int .i64 (errB (t.may D M))) ∧ ∃ q os', w' = grow ((grow (V.drewN nq) os).drewN q) os' := fun nq os =>
    refcheck_any _ D M t (okV.up (below_grown_sl _ V nq os (Nat.le_refl _)))
  have kS : ∀ nq os, Calls Try.prog 12 #[.agg #[.int .i64 t.k, .int .i64 t.d, t.tv, .int .i64 t.lo, .int .i64 t.hi, t.kv]] (grow (V.drewN nq) os) fun e w' => e = .returned (.int .i64 ((min 201 t.sz : Nat) : Int)) ∧ ∃ q os', w' = grow ((grow (V.drewN nq) os).drewN q) os' := fun nq os =>
    size_any _ t (okV.up (below_grown_sl _ V nq os (Nat.le_refl _)))
  have kT : ∀ nq os, Calls Try.prog 13 #[.agg #[.int .i64 t.k, .int .i64 t.d, t.tv, .int .i64 t.lo, .int .i64 t.hi, t.kv]] (grow (V.drewN nq) os) fun e w' => e = .returned (.int .i64 ((min 201 t.sz : Nat) : Int)) ∧ ∃ q os', w' = grow ((grow (V.drewN nq) os).drewN q) os' := fun nq os =>
    refsize_any _ t (okV.up (below_grown_sl _ V nq os (Nat.le_refl _)))
  obtain ⟨⟨z0, z1⟩, y⟩ := HBX.out V bV
  have z0' := fun nq os => cell_gr z0 nq os
  have z1' := fun nq os => cell_gr z1 nq os
  have y0' := fun nq os => cell_gr (y 0 _ rfl) nq os
  have y1' := fun nq os => cell_gr (y 1 _ rfl) nq os
  have y2' := fun nq os => cell_gr (y 2 _ rfl) nq os
  have y3' := fun nq os => cell_gr (y 3 _ rfl) nq os
  have y4' := fun nq os => cell_gr (y 4 _ rfl) nq os
  have y5' := fun nq os => cell_gr (y 5 _ rfl) nq os
  rw [HE.out.1, HE.out.2] at kC kR kS kT
  rw [HE.out.1] at y2'
  rw [HE.out.2] at y5'
  have HB : Hid (Below w.heap.size w V) := HG.out.below.trans (bV.mono HG.out.below.size)
  generalize errB (t.may D M) = r at *
  generalize min 201 t.sz = s at *
  generalize t.k = xk at *
  generalize t.d = xd at *
  generalize t.lo = xl at *
  generalize t.hi = xh at *
  clear kA okV bV y z0 z1
  go_wp2_with fail
  refine wp_region_quiet_grown (by assumption) (by kernel_rfl) ?_
  repeat (go_big_quiet_step (first | (go_at_call 10; refine Calls.grown_of (kC _ _)) | (go_at_call 11; refine Calls.grown_of (kR _ _)) | (go_at_call 12; refine Calls.grown_of (kS _ _)) | (go_at_call 13; refine Calls.grown_of (kT _ _))))
  refine wpQuiet_nil ?_
  intro _ hw'
  obtain ⟨⟨nq, osq⟩, hw''⟩ := hw'
  subst hw''
  go_wp2_with fail
  go_ret
  exact ⟨by simp, HB.out.trans (below_grown_sl _ V nq osq HB.out.size)⟩
end Go.Proofs.Ytlfkhinmncbkcaa
