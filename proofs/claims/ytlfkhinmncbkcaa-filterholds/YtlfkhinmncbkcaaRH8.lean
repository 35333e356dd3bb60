/- The reference's Holds, one kind of filters. -/
import Derived.Test.YtlfkhinmncbkcaaRHold
namespace Go.Proofs.Ytlfkhinmncbkcaa
open Go.RowKit Go.Sort

set_option maxHeartbeats 8000000 in
theorem rhold_8 (X : Fc) (N : Nat) (ih : RHoldC X N) (t : Tr) (ht : SizeOf.sizeOf t < N + 1) (w : World) (h : t.Ok w) (hX : X.Ok w) (hf : t.fitA X.ds.length X.ms.length = true) (hk : t.k = 8) :
    Calls Try.prog 16 #[.agg #[.int .i64 t.k, .int .i64 t.d, t.tv, .int .i64 t.lo, .int .i64 t.hi, t.kv], .agg #[.int .i64 X.t, X.dv, X.mv]] w fun e w' => e = .returned (.bool (t.hold X)) ∧ Grows w w' := by
  obtain ⟨at', nt, ct, ak, nk, ck, e1, e2, hnk, hc1, hc2, -⟩ := h.lens
  unfold maxLen at hc2
  obtain ⟨ad, nd, cd, am, nm, cm, f1, f2, hnd, hnm, hd1, hd2, hm1, hm2, -, -⟩ := hX.lens
  unfold maxLen at hd2 hm2
  obtain ⟨W0, hW0⟩ : ∃ W, W = w.alloc (.cells #[.int .i64 t.k, .int .i64 t.d, t.tv, .int .i64 t.lo, .int .i64 t.hi, t.kv] 27) := ⟨_, rfl⟩
  obtain ⟨W, hW1⟩ : ∃ W, W = W0.alloc (.cells #[.int .i64 X.t, X.dv, X.mv] 35) := ⟨_, rfl⟩
  have s0 : W0.heap.size = w.heap.size + 1 := by rw [hW0]; simp
  have gW : Grows w W := by rw [hW1, hW0]; exact (Grows.alloc _ _).trans (Grows.alloc _ _)
  have cc : ∀ c u, #[Value.int .i64 t.k, .int .i64 t.d, t.tv, .int .i64 t.lo, .int .i64 t.hi, t.kv][c]? = some u → W.cell? ⟨w.heap.size, c, none⟩ = some u := fun c u hc => by
    rw [hW1, hW0]; exact cell_alloc_sl _ (al_new _ _ _ rfl hc)
  have cx : ∀ c u, #[Value.int .i64 X.t, X.dv, X.mv][c]? = some u → W.cell? ⟨w.heap.size + 1, c, none⟩ = some u := fun c u hc => by
    rw [hW1]; exact al_new _ _ _ s0.symm hc
  have hW : W = (w.alloc (.cells #[.int .i64 t.k, .int .i64 t.d, t.tv, .int .i64 t.lo, .int .i64 t.hi, t.kv] 27)).alloc (.cells #[.int .i64 X.t, X.dv, X.mv] 35) := by rw [hW1, hW0]
  have HC : Aside _ := And.intro cc cx
  have HO : Hid (t.Ok W ∧ X.Ok W ∧ SizeOf.sizeOf t < N + 1) := ⟨h.up gW.below, hX.up gW.below, ht⟩
  have HF : Hid (t.fitA X.ds.length X.ms.length = true) := hf
  have HE : Hid (t.tv = .slice at' nt ct ∧ t.kv = .slice ak nk ck) := ⟨e1, e2⟩
  have HEx : Hid (X.dv = .slice ad nd cd ∧ X.mv = .slice am nm cm) := ⟨f1, f2⟩
  have HG : Hid (Grows w W) := gW
  have HW : Hid _ := hW
  have HI : Aside _ := ih
  have HNK : Hid (nk = t.ks.length) := hnk
  have HND : Hid (nd = X.ds.length ∧ nm = X.ms.length) := ⟨hnd, hnm⟩
  have HK : Hid (t.k = 8) := hk
  have mixed : Try.prog.follows .mixedOrders = true := by kernel_rfl
  have cK : (t.k == 8) = true := by simp [hk]
  have c2 : (t.k == 2) = false := by simp; omega
  have c3 : (t.k == 3) = false := by simp; omega
  have c4 : (t.k == 4) = false := by simp; omega
  have c5 : (t.k == 5) = false := by simp; omega
  have c6 : (t.k == 6) = false := by simp; omega
  have c7 : (t.k == 7) = false := by simp; omega
  rw [e1, e2, f1, f2] at HW ⊢
  clear h ht hX hf ih hW0 hW1 s0 gW cc cx hW e1 e2 f1 f2 hnk hnd hnm hk
  obtain ⟨hd0, hdD⟩ := fit_8 HK.out HF.out
  obtain ⟨j, hj⟩ : ∃ j : Nat, t.d = (j : Int) := ⟨t.d.toNat, by omega⟩
  have hjl : j < X.ms.length := by omega
  have hjz : (j : Int) < (nm : Int) := by have := HND.out.2; omega
  obtain ⟨_, _, _, _, _, _, u1, u2, -, -, -, -, -, -, -, hd3⟩ := HO.out.2.1.lens
  rw [HEx.out.2] at u2
  obtain ⟨bd, od, ud, hdc⟩ := hd3 (by omega)
  simp only [Value.slice.injEq] at u2
  obtain ⟨u2, -, -⟩ := u2
  rw [ud] at u2
  subst u2
  have qd := hdc j hjl
  have HR : Hid (t.hold X = (decide (t.lo ≤ X.ms.getD j 0) && decide (X.ms.getD j 0 ≤ t.hi))) := hold_8 HK.out hj hjl
  have y0 := fun nq os => cell_gr (HC.out.1 0 _ rfl) nq os
  have y1 := fun nq os => cell_gr (HC.out.1 1 _ rfl) nq os
  have y2 := fun nq os => cell_gr (HC.out.1 2 _ rfl) nq os
  have y3 := fun nq os => cell_gr (HC.out.1 3 _ rfl) nq os
  have y4 := fun nq os => cell_gr (HC.out.1 4 _ rfl) nq os
  have y5 := fun nq os => cell_gr (HC.out.1 5 _ rfl) nq os
  have z0 := fun nq os => cell_gr (HC.out.2 0 _ rfl) nq os
  have z1 := fun nq os => cell_gr (HC.out.2 1 _ rfl) nq os
  have z2 := fun nq os => cell_gr (HC.out.2 2 _ rfl) nq os
  rw [HE.out.1] at y2
  rw [HE.out.2] at y5
  rw [HEx.out.1] at z1
  rw [HEx.out.2] at z2
  rw [hj] at y1
  rw [hj] at HW ⊢
  have qd' := fun nq os => cell_gr qd nq os
  generalize X.ms.getD j 0 = m at *
  clear hd0 hdD hj hjl hd3 hdc ud u1 qd
  cases hlo : decide (t.lo ≤ m) with
  | false =>
    rw [hlo] at HR
    go_enter Try.func16, Try.ntmps16
    go_wp2_with fail
    rw [← HW.out]
    refine wp_region_quiet_grown (by assumption) (by kernel_rfl) ?_
    repeat (go_big_quiet_step (first | fail))
    refine wpQuiet_nil ?_
    intro _ hw'
    obtain ⟨⟨nq, osq⟩, hw''⟩ := hw'
    subst hw''
    obtain ⟨w1, hw1⟩ : ∃ v, v = grow (W.drewN nq) osq := ⟨_, rfl⟩
    rw [← hw1]
    have g1 : Grows W w1 := ⟨nq, osq, hw1⟩
    clear hw1
    go_wp2_with fail
    go_ret
    exact ⟨by rw [HR.out]; rfl, HG.out.trans g1⟩
  | true =>
    rw [hlo] at HR
    go_enter Try.func16, Try.ntmps16
    go_wp2_with fail
    rw [← HW.out]
    refine wp_region_quiet_grown (by assumption) (by kernel_rfl) ?_
    repeat (go_big_quiet_step (first | fail))
    refine wpQuiet_nil ?_
    intro _ hw'
    obtain ⟨⟨nq, osq⟩, hw''⟩ := hw'
    subst hw''
    obtain ⟨w1, hw1⟩ : ∃ v, v = grow (W.drewN nq) osq := ⟨_, rfl⟩
    rw [← hw1]
    have g1 : Grows W w1 := ⟨nq, osq, hw1⟩
    clear hw1
    go_wp2_with fail
    go_ret
    exact ⟨by rw [HR.out]; simp, HG.out.trans g1⟩
end Go.Proofs.Ytlfkhinmncbkcaa
