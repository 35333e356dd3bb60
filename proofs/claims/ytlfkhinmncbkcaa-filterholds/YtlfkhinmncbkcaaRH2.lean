/- The reference's Holds, one kind of filters. -/
import Derived.Test.YtlfkhinmncbkcaaRHold
namespace Go.Proofs.Ytlfkhinmncbkcaa
open Go.RowKit Go.Sort

set_option maxHeartbeats 8000000 in
theorem rhold_2 (X : Fc) (N : Nat) (ih : RHoldC X N) (t : Tr) (ht : SizeOf.sizeOf t < N + 1) (w : World) (h : t.Ok w) (hX : X.Ok w) (hf : t.fitA X.ds.length X.ms.length = true) (hk : t.k = 2) :
    Calls Try.prog 16 #[.agg #[.int .i64 t.k, .int .i64 t.d, t.tv, .int .i64 t.lo, .int .i64 t.hi, t.kv], .agg #[.int .i64 X.t, X.dv, X.mv]] w fun e w' => e = .returned (.bool (t.hold X)) ∧ Grows w w' := by
  obtain ⟨at', nt, ct, ak, nk, ck, e1, e2, hnk, hc1, hc2, -⟩ := h.lens
  unfold maxLen at hc2
  obtain ⟨ad, nd, cd, am, nm, cm, f1, f2, hnd, hnm, hd1, hd2, hm1, hm2, -, -⟩ := hX.lens
  unfold maxLen at hd2 hm2
  obtain ⟨W0, hW0⟩ : ∃ W, W = w.alloc (.cells #[.int .i64 t.k, .int .i64 t.d, t.tv, .int .i64 t.lo, .int .i64 t.hi, t.kv] 27) := ⟨_, rfl⟩
  obtain ⟨W, hW1⟩ : ∃ W, W = W0.alloc (.cells #[.int .i64 X.t, X.dv, X.mv] 35) := ⟨_, rfl⟩
  have s0 : W0.heap.size = w.heap.size + 1 := by rw [hW0]; simp
  have gW : Grows w W := by rw [hW1, hW0]; exact (Grows.alloc _ _).trans (Grows.alloc _ _)
  have cc : ∀ c u, #[Value.int .i64 t.k, .int .i64 t.d, t.tv, .int .i64 t.lo, .int .i64 t.hi, t.kv][c]? = some u → W.cell? ⟨w.heap.size, c, none⟩ = some u := fun c u hc => by
    rw [hW1, hW0]; exact cell_alloc_sl _ (al_new _ _ _ rfl hc)
  have cx : ∀ c u, #[Value.int .i64 X.t, X.dv, X.mv][c]? = some u → W.cell? ⟨w.heap.size + 1, c, none⟩ = some u := fun c u hc => by
    rw [hW1]; exact al_new _ _ _ s0.symm hc
  have hW : W = (w.alloc (.cells #[.int .i64 t.k, .int .i64 t.d, t.tv, .int .i64 t.lo, .int .i64 t.hi, t.kv] 27)).alloc (.cells #[.int .i64 X.t, X.dv, X.mv] 35) := by rw [hW1, hW0]
  have HC : Aside _ := And.intro cc cx
  have HO : Hid (t.Ok W ∧ X.Ok W ∧ SizeOf.sizeOf t < N + 1) := ⟨h.up gW.below, hX.up gW.below, ht⟩
  have HF : Hid (t.fitA X.ds.length X.ms.length = true) := hf
  have HE : Hid (t.tv = .slice at' nt ct ∧ t.kv = .slice ak nk ck) := ⟨e1, e2⟩
  have HEx : Hid (X.dv = .slice ad nd cd ∧ X.mv = .slice am nm cm) := ⟨f1, f2⟩
  have HG : Hid (Grows w W) := gW
  have HW : Hid _ := hW
  have HI : Aside _ := ih
  have HNK : Hid (nk = t.ks.length) := hnk
  have HND : Hid (nd = X.ds.length ∧ nm = X.ms.length) := ⟨hnd, hnm⟩
  have HK : Hid (t.k = 2) := hk
  have mixed : Try.prog.follows .mixedOrders = true := by kernel_rfl
  have cK : (t.k == 2) = true := by simp [hk]
  rw [e1, e2, f1, f2] at HW ⊢
  clear h ht hX hf ih hW0 hW1 s0 gW cc cx hW e1 e2 f1 f2 hnk hnd hnm hk
  obtain ⟨x, hks, hfx⟩ := fit_one HK.out HF.out
  have HR : Hid (t.hold X = !x.hold X) := hold2 X HK.out hks
  have hnk : nk = 1 := by have := HNK.out; rw [hks] at this; simpa using this
  subst hnk
  have hr := HO.out.1.kids'
  rw [HE.out.2] at hr
  obtain ⟨bk, off, rfl, hcell⟩ := hr.at (by rw [hks]; simp)
  obtain ⟨q0, q1, q2, q3, q4, q5⟩ := hcell 0 (by rw [hks]; simp)
  simp only [hks, List.getElem_cons_zero, Nat.zero_mul, Nat.add_zero] at q0 q1 q2 q3 q4 q5
  have hxm : x ∈ t.ks := by rw [hks]; exact List.mem_cons_self
  have ok := hr.ok x hxm
  have okx := HO.out.2.1
  have hsz : SizeOf.sizeOf x < N := by have := ks_lt hxm; have := HO.out.2.2; omega
  have kR : ∀ nq os, Calls Try.prog 16 #[.agg #[.int .i64 x.k, .int .i64 x.d, x.tv, .int .i64 x.lo, .int .i64 x.hi, x.kv], .agg #[.int .i64 X.t, X.dv, X.mv]] (grow (W.drewN nq) os) fun e w' => e = .returned (.bool (x.hold X)) ∧ ∃ q os', w' = grow ((grow (W.drewN nq) os).drewN q) os' := fun nq os =>
    HI.out x hsz _ (ok.up (below_grown_sl _ W nq os (Nat.le_refl _))) (okx.up (below_grown_sl _ W nq os (Nat.le_refl _))) hfx
  obtain ⟨at5, nt5, ct5, ak5, nk5, ck5, g1, g2, -, -, -, -⟩ := ok.lens
  rw [g1, g2, HEx.out.1, HEx.out.2] at kR
  rw [g1] at q2
  rw [g2] at q5
  have p0 := fun nq os => cell_gr q0 nq os
  have p1 := fun nq os => cell_gr q1 nq os
  have p2 := fun nq os => cell_gr q2 nq os
  have p3 := fun nq os => cell_gr q3 nq os
  have p4 := fun nq os => cell_gr q4 nq os
  have p5 := fun nq os => cell_gr q5 nq os
  obtain ⟨R, hR⟩ : ∃ R, R = x.hold X := ⟨_, rfl⟩
  rw [← hR] at kR
  have HRx : Hid (R = x.hold X) := hR
  have y5 := fun nq os => cell_gr (HC.out.1 5 _ rfl) nq os
  have z0 := fun nq os => cell_gr (HC.out.2 0 _ rfl) nq os
  have z1 := fun nq os => cell_gr (HC.out.2 1 _ rfl) nq os
  have z2 := fun nq os => cell_gr (HC.out.2 2 _ rfl) nq os
  rw [HE.out.2] at y5
  rw [HEx.out.1] at z1
  rw [HEx.out.2] at z2
  generalize x.k = xk at *
  generalize x.d = xd at *
  generalize x.lo = xl at *
  generalize x.hi = xh at *
  clear hks hfx hr hcell q0 q1 q2 q3 q4 q5 hxm ok okx hsz g1 g2 hR
  go_enter Try.func16, Try.ntmps16
  go_wp2_with fail
  rw [← HW.out]
  refine wp_region_quiet_grown (by assumption) (by kernel_rfl) ?_
  repeat (go_big_quiet_step (first | (go_at_call 16; with_reducible refine Calls.grown_of (kR _ _))))
  refine wpQuiet_nil ?_
  intro _ hw'
  obtain ⟨⟨nq, osq⟩, hw''⟩ := hw'
  subst hw''
  obtain ⟨w1, hw1⟩ : ∃ v, v = grow (W.drewN nq) osq := ⟨_, rfl⟩
  rw [← hw1]
  have g1 : Grows W w1 := ⟨nq, osq, hw1⟩
  clear hw1
  go_wp2_with fail
  go_ret
  exact ⟨by rw [HR.out, ← HRx.out]; rfl, HG.out.trans g1⟩
end Go.Proofs.Ytlfkhinmncbkcaa
