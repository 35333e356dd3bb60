/- The reference's Holds, one kind of filters. -/
import Derived.Test.YtlfkhinmncbkcaaRHold
namespace Go.Proofs.Ytlfkhinmncbkcaa
open Go.RowKit Go.Sort

set_option maxHeartbeats 8000000 in
theorem rhold_4 (X : Fc) (N : Nat) (ih : RHoldC X N) (t : Tr) (ht : SizeOf.sizeOf t < N + 1) (w : World) (h : t.Ok w) (hX : X.Ok w) (hf : t.fitA X.ds.length X.ms.length = true) (hk : t.k = 4) :
    Calls Try.prog 16 #[.agg #[.int .i64 t.k, .int .i64 t.d, t.tv, .int .i64 t.lo, .int .i64 t.hi, t.kv], .agg #[.int .i64 X.t, X.dv, X.mv]] w fun e w' => e = .returned (.bool (t.hold X)) ∧ Grows w w' := by
  obtain ⟨at', nt, ct, ak, nk, ck, e1, e2, hnk, hc1, hc2, -⟩ := h.lens
  unfold maxLen at hc2
  obtain ⟨ad, nd, cd, am, nm, cm, f1, f2, hnd, hnm, hd1, hd2, hm1, hm2, -, -⟩ := hX.lens
  unfold maxLen at hd2 hm2
  obtain ⟨W0, hW0⟩ : ∃ W, W = w.alloc (.cells #[.int .i64 t.k, .int .i64 t.d, t.tv, .int .i64 t.lo, .int .i64 t.hi, t.kv] 27) := ⟨_, rfl⟩
  obtain ⟨W, hW1⟩ : ∃ W, W = W0.alloc (.cells #[.int .i64 X.t, X.dv, X.mv] 35) := ⟨_, rfl⟩
  have s0 : W0.heap.size = w.heap.size + 1 := by rw [hW0]; simp
  have gW : Grows w W := by rw [hW1, hW0]; exact (Grows.alloc _ _).trans (Grows.alloc _ _)
  have cc : ∀ c u, #[Value.int .i64 t.k, .int .i64 t.d, t.tv, .int .i64 t.lo, .int .i64 t.hi, t.kv][c]? = some u → W.cell? ⟨w.heap.size, c, none⟩ = some u := fun c u hc => by
    rw [hW1, hW0]; exact cell_alloc_sl _ (al_new _ _ _ rfl hc)
  have cx : ∀ c u, #[Value.int .i64 X.t, X.dv, X.mv][c]? = some u → W.cell? ⟨w.heap.size + 1, c, none⟩ = some u := fun c u hc => by
    rw [hW1]; exact al_new _ _ _ s0.symm hc
  have hW : W = (w.alloc (.cells #[.int .i64 t.k, .int .i64 t.d, t.tv, .int .i64 t.lo, .int .i64 t.hi, t.kv] 27)).alloc (.cells #[.int .i64 X.t, X.dv, X.mv] 35) := by rw [hW1, hW0]
  have HC : Aside _ := And.intro cc cx
  have HO : Hid (t.Ok W ∧ X.Ok W ∧ SizeOf.sizeOf t < N + 1) := ⟨h.up gW.below, hX.up gW.below, ht⟩
  have HF : Hid (t.fitA X.ds.length X.ms.length = true) := hf
  have HE : Hid (t.tv = .slice at' nt ct ∧ t.kv = .slice ak nk ck) := ⟨e1, e2⟩
  have HEx : Hid (X.dv = .slice ad nd cd ∧ X.mv = .slice am nm cm) := ⟨f1, f2⟩
  have HG : Hid (Grows w W) := gW
  have HW : Hid _ := hW
  have HI : Aside _ := ih
  have HNK : Hid (nk = t.ks.length) := hnk
  have HND : Hid (nd = X.ds.length ∧ nm = X.ms.length) := ⟨hnd, hnm⟩
  have HK : Hid (t.k = 4) := hk
  have mixed : Try.prog.follows .mixedOrders = true := by kernel_rfl
  have cK : (t.k == 4) = true := by simp [hk]
  have c2 : (t.k == 2) = false := by simp; omega
  have c3 : (t.k == 3) = false := by simp; omega
  rw [e1, e2, f1, f2] at HW ⊢
  clear h ht hX hf ih hW0 hW1 s0 gW cc cx hW e1 e2 f1 f2 hnk hnd hnm hk
  have hr := HO.out.1.kids'
  rw [HE.out.2] at hr
  have HRK : Hid (RdsT W (.slice ak nk ck) t.ks) := hr
  have HFK : Hid (∀ c ∈ t.ks, c.fitA X.ds.length X.ms.length = true) := by
    have := (fitA_fit HF.out).2
    rw [and_kids (by have := HK.out; omega), fitL_mem] at this
    exact this
  clear hr
  go_enter Try.func16, Try.ntmps16
  go_wp2_with fail
  rw [← HW.out]
  go_loopg [7] nk (fun kx vi wr => ∃ i : Nat, vi = .int .i64 i ∧ i ≤ nk ∧ nk - i ≤ kx ∧ Hid (∀ j (hj : j < t.ks.length), j < i → t.ks[j].hold X = false) ∧ Hid (Grows W wr))
  case atStart => exact ⟨0, rfl, by omega, Nat.le_refl _, fun j _ hj => by omega, Grows.refl _⟩
  case round =>
    obtain ⟨i, rfl, hi, hkx, HJ, HGr⟩ := hrel
    have cc := fun c u hc => cell_up HGr.out.below (HC.out.1 c u hc)
    have cx := fun c u hc => cell_up HGr.out.below (HC.out.2 c u hc)
    have v5 := cc 5 _ rfl
    rw [HE.out.2] at v5
    by_cases hlt : i < nk
    · have hltz : (i : Int) < (nk : Int) := by omega
      have hil : i < t.ks.length := by have := HNK.out; omega
      have hr := RdsT.below HRK.out HGr.out.below
      obtain ⟨bk, off, rfl, hcell⟩ := hr.at (by omega)
      obtain ⟨q0, q1, q2, q3, q4, q5⟩ := hcell i hil
      have hxm : t.ks[i] ∈ t.ks := List.getElem_mem hil
      have ok := hr.ok t.ks[i] hxm
      have hfx := HFK.out t.ks[i] hxm
      have hsz : SizeOf.sizeOf t.ks[i] < N := by have := ks_lt hxm; have := HO.out.2.2; omega
      obtain ⟨x, hx⟩ : ∃ x, x = t.ks[i] := ⟨_, rfl⟩
      rw [← hx] at q0 q1 q2 q3 q4 q5 ok hfx hsz hxm
      have HXX : Hid (x = t.ks[i] ∧ x ∈ t.ks) := ⟨hx, hxm⟩
      have okx := HO.out.2.1.up HGr.out.below
      have kR : ∀ nq os, Calls Try.prog 16 #[.agg #[.int .i64 x.k, .int .i64 x.d, x.tv, .int .i64 x.lo, .int .i64 x.hi, x.kv], .agg #[.int .i64 X.t, X.dv, X.mv]] (grow (wr.drewN nq) os) fun e w' => e = .returned (.bool (x.hold X)) ∧ ∃ q os', w' = grow ((grow (wr.drewN nq) os).drewN q) os' := fun nq os =>
        HI.out x hsz _ (ok.up (below_grown_sl _ wr nq os (Nat.le_refl _))) (okx.up (below_grown_sl _ wr nq os (Nat.le_refl _))) hfx
      obtain ⟨at5, nt5, ct5, ak5, nk5, ck5, g1, g2, -, -, -, -⟩ := ok.lens
      rw [g1, g2, HEx.out.1, HEx.out.2] at kR
      rw [g1] at q2
      rw [g2] at q5
      have p0 := fun nq os => cell_gr q0 nq os
      have p1 := fun nq os => cell_gr q1 nq os
      have p2 := fun nq os => cell_gr q2 nq os
      have p3 := fun nq os => cell_gr q3 nq os
      have p4 := fun nq os => cell_gr q4 nq os
      have p5 := fun nq os => cell_gr q5 nq os
      obtain ⟨R, hR⟩ : ∃ R, R = x.hold X := ⟨_, rfl⟩
      rw [← hR] at kR
      have HRx : Hid (R = x.hold X) := hR
      have y5 := fun nq os => cell_gr (cc 5 _ rfl) nq os
      have z0 := fun nq os => cell_gr (cx 0 _ rfl) nq os
      have z1 := fun nq os => cell_gr (cx 1 _ rfl) nq os
      have z2 := fun nq os => cell_gr (cx 2 _ rfl) nq os
      rw [HE.out.2] at y5
      rw [HEx.out.1] at z1
      rw [HEx.out.2] at z2
      generalize x.k = xk at *
      generalize x.d = xd at *
      generalize x.lo = xl at *
      generalize x.hi = xh at *
      clear cc cx hr hcell q0 q1 q2 q3 q4 q5 hxm ok okx hsz hfx g1 g2 hR hx
      go_wp2_with fail
      refine wp_region_quiet_grown (by assumption) (by kernel_rfl) ?_
      repeat (go_big_quiet_step (first | (go_at_call 16; with_reducible refine Calls.grown_of (kR _ _))))
      refine wpQuiet_nil ?_
      intro _ hw'
      obtain ⟨⟨nq, osq⟩, hw''⟩ := hw'
      subst hw''
      obtain ⟨w1, hw1⟩ : ∃ v, v = grow (wr.drewN nq) osq := ⟨_, rfl⟩
      rw [← hw1]
      have g1 : Grows wr w1 := ⟨nq, osq, hw1⟩
      clear hw1
      clear kR v5 y5 z0 z1 z2 p0 p1 p2 p3 p4 p5
      cases R with
      | true =>
        have HT : Hid (t.hold X = true) := by show _ = _; rw [hold4 X HK.out, anyB_some HXX.out.2 HRx.out.symm]
        go_wp2_with fail
        go_ret
        exact ⟨by rw [HT.out]; rfl, HG.out.trans (HGr.out.trans g1)⟩
      | false =>
        have HJ' : Hid (∀ j (hj : j < t.ks.length), j < i + 1 → t.ks[j].hold X = false) := fun j hj hji => by
          by_cases h : j = i
          · subst h; rw [← HXX.out.1]; exact HRx.out.symm
          · exact HJ.out j hj (by omega)
        go_wp2_with fail
        go_roundg (nk - (i + 1))
        case measure => omega
        case rel => exact ⟨i + 1, by go_num, by omega, Nat.le_refl _, HJ', HGr.out.trans g1⟩
    · have hltz : ¬ (i : Int) < (nk : Int) := by omega
      have HT : Hid (t.hold X = false) := by
        show _ = _
        rw [hold4 X HK.out, anyB_false (a := true) fun j hj => HJ.out j hj (by have := HNK.out; omega)]
      clear cc cx
      go_wp2_with fail
      go_ret
      exact ⟨by rw [HT.out]; rfl, HG.out.trans HGr.out⟩
end Go.Proofs.Ytlfkhinmncbkcaa
