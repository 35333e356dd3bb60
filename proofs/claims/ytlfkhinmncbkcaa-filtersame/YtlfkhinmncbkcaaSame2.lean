/- The contract of Same, and the walk of FilterSame. -/
import Derived.Test.YtlfkhinmncbkcaaSame1
import Derived.Test.YtlfkhinmncbkcaaRSameZ
import Derived.Test.YtlfkhinmncbkcaaRChk
namespace Go.Proofs.Ytlfkhinmncbkcaa
open Go.RowKit Go.Sort

theorem same_all : ∀ N, SameC N := by
  intro N
  induction N with
  | zero => intro a ha; omega
  | succ N ih => intro a ht b w ha hb; exact same_step N ih a b ht w ha hb

set_option maxHeartbeats 4000000 in
theorem Same_any (w : World) (a b : Tr) (ha : a.Ok w) (hb : b.Ok w) (h1 : a.sz ≤ 400) (h2 : b.sz ≤ 400) :
    Calls Try.prog 17 #[.agg #[.int .i64 a.k, .int .i64 a.d, a.tv, .int .i64 a.lo, .int .i64 a.hi, a.kv], .agg #[.int .i64 b.k, .int .i64 b.d, b.tv, .int .i64 b.lo, .int .i64 b.hi, b.kv]] w fun e w' => e = .returned (.bool (a.same b)) ∧ Grows w w' := by
  obtain ⟨at', nt, ct, ak, nk, ck, e1, e2, -, -, -, -⟩ := ha.lens
  obtain ⟨bt', mt, dt, bk, mk, dk, f1, f2, -, -, -, -⟩ := hb.lens
  obtain ⟨W0, hW0⟩ : ∃ W, W = w.alloc (.cells #[.int .i64 a.k, .int .i64 a.d, a.tv, .int .i64 a.lo, .int .i64 a.hi, a.kv] 27) := ⟨_, rfl⟩
  obtain ⟨W, hW1⟩ : ∃ W, W = W0.alloc (.cells #[.int .i64 b.k, .int .i64 b.d, b.tv, .int .i64 b.lo, .int .i64 b.hi, b.kv] 27) := ⟨_, rfl⟩
  have s0 : W0.heap.size = w.heap.size + 1 := by rw [hW0]; simp
  have gW : Grows w W := by rw [hW1, hW0]; exact (Grows.alloc _ _).trans (Grows.alloc _ _)
  have cc : Sx W w.heap.size a := fun c u hc => by
    rw [hW1, hW0]; exact cell_alloc_sl _ (al_new _ _ _ rfl hc)
  have cx : Sx W (w.heap.size + 1) b := fun c u hc => by
    rw [hW1]; exact al_new _ _ _ s0.symm hc
  have hW : W = (w.alloc (.cells #[.int .i64 a.k, .int .i64 a.d, a.tv, .int .i64 a.lo, .int .i64 a.hi, a.kv] 27)).alloc (.cells #[.int .i64 b.k, .int .i64 b.d, b.tv, .int .i64 b.lo, .int .i64 b.hi, b.kv] 27) := by rw [hW1, hW0]
  have kA := great_any W a (ha.up gW.below)
  rw [decide_eq_false (show ¬ 400 < a.sz by omega), hW, e1, e2, f1, f2] at kA
  have HC : Hid (Sx W w.heap.size a ∧ Sx W (w.heap.size + 1) b) := ⟨cc, cx⟩
  have HO : Hid (a.Ok W ∧ b.Ok W ∧ b.sz ≤ 400) := ⟨ha.up gW.below, hb.up gW.below, h2⟩
  have HEa : Hid (a.tv = .slice at' nt ct ∧ a.kv = .slice ak nk ck) := ⟨e1, e2⟩
  have HEb : Hid (b.tv = .slice bt' mt dt ∧ b.kv = .slice bk mk dk) := ⟨f1, f2⟩
  have HG : Hid (Grows w W) := gW
  have HW : Hid _ := hW
  rw [e1, e2, f1, f2] at HW ⊢
  clear ha hb h1 h2 hW0 hW1 s0 gW cc cx hW e1 e2 f1 f2
  go_enter Try.func17, Try.ntmps17
  go_wp2_with fail
  refine kA.mono ?_
  rintro e w1 ⟨rfl, g1⟩
  rw [← HW.out] at g1
  clear kA
  have kB := great_any w1 b (HO.out.2.1.up g1.below)
  rw [decide_eq_false (show ¬ 400 < b.sz by have := HO.out.2.2; omega), HEb.out.1, HEb.out.2] at kB
  obtain ⟨y0, y1, y2, y3, y4, y5⟩ := (HC.out.2.up g1.below).all
  rw [HEb.out.1] at y2
  rw [HEb.out.2] at y5
  have HG1 : Hid (Grows W w1) := g1
  clear g1
  go_wp2_with fail
  refine kB.mono ?_
  rintro e w2 ⟨rfl, g2⟩
  have g2 := HG1.out.trans g2
  clear kB y0 y1 y2 y3 y4 y5
  have kS := same_all _ a (Nat.lt_succ_self _) b w2 (HO.out.1.up g2.below) (HO.out.2.1.up g2.below)
  rw [HEa.out.1, HEa.out.2, HEb.out.1, HEb.out.2] at kS
  obtain ⟨x0, x1, x2, x3, x4, x5⟩ := (HC.out.1.up g2.below).all
  obtain ⟨y0, y1, y2, y3, y4, y5⟩ := (HC.out.2.up g2.below).all
  rw [HEa.out.1] at x2
  rw [HEa.out.2] at x5
  rw [HEb.out.1] at y2
  rw [HEb.out.2] at y5
  have HG2 : Hid (Grows W w2) := g2
  obtain ⟨r, hr⟩ : ∃ r, r = a.same b := ⟨_, rfl⟩
  rw [← hr] at kS
  have HR : Hid (r = a.same b) := hr
  clear g2 hr
  go_wp2_with fail
  refine kS.mono ?_
  rintro e w3 ⟨rfl, g3⟩
  have g3 := HG2.out.trans g3
  go_wp2_with fail
  go_ret
  exact ⟨by rw [← HR.out]; simp, HG.out.trans g3⟩

set_option maxHeartbeats 8000000 in
theorem same_walk (w : World) (D M : Int) (a b : Tr) (ha : a.Ok w) (_ : a.Lim) (hb : b.Ok w) (_ : b.Lim) :
    Calls Try.prog 5 #[.agg #[.int .i64 D, .int .i64 M], .agg #[.int .i64 a.k, .int .i64 a.d, a.tv, .int .i64 a.lo, .int .i64 a.hi, a.kv], .agg #[.int .i64 b.k, .int .i64 b.d, b.tv, .int .i64 b.lo, .int .i64 b.hi, b.kv]] w fun e w' => e = .returned (.bool true) ∧ Below w.heap.size w w' := by
  obtain ⟨at', nt, ct, ak, nk, ck, e1, e2, -, -, -, -⟩ := ha.lens
  obtain ⟨bt', mt, dt, bk, mk, dk, f1, f2, -, -, -, -⟩ := hb.lens
  obtain ⟨W0, hW0⟩ : ∃ W, W = w.alloc (.cells #[.int .i64 D, .int .i64 M] 23) := ⟨_, rfl⟩
  obtain ⟨W1, hW1⟩ : ∃ W, W = W0.alloc (.cells #[.int .i64 a.k, .int .i64 a.d, a.tv, .int .i64 a.lo, .int .i64 a.hi, a.kv] 27) := ⟨_, rfl⟩
  obtain ⟨W, hW2⟩ : ∃ W, W = W1.alloc (.cells #[.int .i64 b.k, .int .i64 b.d, b.tv, .int .i64 b.lo, .int .i64 b.hi, b.kv] 27) := ⟨_, rfl⟩
  have s0 : W0.heap.size = w.heap.size + 1 := by rw [hW0]; simp
  have s1 : W1.heap.size = w.heap.size + 1 + 1 := by rw [hW1]; simp [s0]
  have gW : Grows w W := by rw [hW2, hW1, hW0]; exact ((Grows.alloc _ _).trans (Grows.alloc _ _)).trans (Grows.alloc _ _)
  have cs : ∀ c u, (#[Value.int .i64 D, .int .i64 M])[c]? = some u → W.cell? ⟨w.heap.size, c, none⟩ = some u := fun c u hc => by
    rw [hW2, hW1, hW0]; exact cell_alloc_sl _ (cell_alloc_sl _ (al_new _ _ _ rfl hc))
  have ca : Sx W (w.heap.size + 1) a := fun c u hc => by
    rw [hW2, hW1]; exact cell_alloc_sl _ (al_new _ _ _ s0.symm hc)
  have cb : Sx W (w.heap.size + 1 + 1) b := fun c u hc => by
    rw [hW2]; exact al_new _ _ _ s1.symm hc
  have hW : W = ((w.alloc (.cells #[.int .i64 D, .int .i64 M] 23)).alloc (.cells #[.int .i64 a.k, .int .i64 a.d, a.tv, .int .i64 a.lo, .int .i64 a.hi, a.kv] 27)).alloc (.cells #[.int .i64 b.k, .int .i64 b.d, b.tv, .int .i64 b.lo, .int .i64 b.hi, b.kv] 27) := by rw [hW2, hW1, hW0]
  have kA := awake_any W
  rw [hW, e1, e2, f1, f2] at kA
  have HC : Hid ((∀ c u, (#[Value.int .i64 D, .int .i64 M])[c]? = some u → W.cell? ⟨w.heap.size, c, none⟩ = some u) ∧ Sx W (w.heap.size + 1) a ∧ Sx W (w.heap.size + 1 + 1) b) := ⟨cs, ca, cb⟩
  have HO : Hid (a.Ok W ∧ b.Ok W) := ⟨ha.up gW.below, hb.up gW.below⟩
  have HEa : Hid (a.tv = .slice at' nt ct ∧ a.kv = .slice ak nk ck) := ⟨e1, e2⟩
  have HEb : Hid (b.tv = .slice bt' mt dt ∧ b.kv = .slice bk mk dk) := ⟨f1, f2⟩
  have HG : Hid (Grows w W) := gW
  have HW : Hid _ := hW
  have mixed : Try.prog.follows .mixedOrders = true := by kernel_rfl
  rw [e1, e2, f1, f2] at HW ⊢
  clear ha hb hW0 hW1 hW2 s0 s1 gW cs ca cb hW e1 e2 f1 f2
  go_enter Try.func5, Try.ntmps5
  go_wp2_with fail
  refine kA.mono ?_
  rintro e V ⟨rfl, bV⟩
  rw [← HW.out] at bV
  clear kA
  have kC := refcheck_any V D M a (HO.out.1.up bV)
  rw [HEa.out.1, HEa.out.2] at kC
  have m0 := cell_up bV (HC.out.1 0 _ rfl)
  have m1 := cell_up bV (HC.out.1 1 _ rfl)
  obtain ⟨a0, a1, a2, a3, a4, a5⟩ := (HC.out.2.1.up bV).all
  rw [HEa.out.1] at a2
  rw [HEa.out.2] at a5
  have HBV : Hid (Below W.heap.size W V) := bV
  clear bV
  cases hA : a.may D M with
  | false =>
    rw [hA, show errB false = 1 from rfl] at kC
    go_wp2_with fail
    refine kC.mono ?_
    rintro e w1 ⟨rfl, g1⟩
    have b1 := HBV.out.trans (g1.below.mono HBV.out.size)
    go_wp2_with fail
    go_ret
    exact ⟨rfl, HG.out.below.trans (b1.mono HG.out.below.size)⟩
  | true =>
    rw [hA, show errB true = 0 from rfl] at kC
    have HA : Hid _ := may_good hA
    go_wp2_with fail
    refine kC.mono ?_
    rintro e w1 ⟨rfl, g1⟩
    have b1 := HBV.out.trans (g1.below.mono HBV.out.size)
    clear kC m0 m1 a0 a1 a2 a3 a4 a5 hA g1
    have kC := refcheck_any w1 D M b (HO.out.2.up b1)
    rw [HEb.out.1, HEb.out.2] at kC
    have m0 := cell_up b1 (HC.out.1 0 _ rfl)
    have m1 := cell_up b1 (HC.out.1 1 _ rfl)
    obtain ⟨a0, a1, a2, a3, a4, a5⟩ := (HC.out.2.2.up b1).all
    rw [HEb.out.1] at a2
    rw [HEb.out.2] at a5
    have HB1 : Hid (Below W.heap.size W w1) := b1
    clear b1
    cases hB : b.may D M with
    | false =>
      rw [hB, show errB false = 1 from rfl] at kC
      go_wp2_with fail
      refine kC.mono ?_
      rintro e w2 ⟨rfl, g2⟩
      have b2 := HB1.out.trans (g2.below.mono HB1.out.size)
      go_wp2_with fail
      go_ret
      exact ⟨rfl, HG.out.below.trans (b2.mono HG.out.below.size)⟩
    | true =>
      rw [hB, show errB true = 0 from rfl] at kC
      have HBm : Hid _ := may_good hB
      go_wp2_with fail
      refine kC.mono ?_
      rintro e U ⟨rfl, g2⟩
      have b2 := HB1.out.trans (g2.below.mono HB1.out.size)
      clear kC m0 m1 a0 a1 a2 a3 a4 a5 hB g2
      have oa := HO.out.1.up b2
      have ob := HO.out.2.up b2
      have kS : ∀ nq os, Calls Try.prog 17 #[.agg #[.int .i64 a.k, .int .i64 a.d, a.tv, .int .i64 a.lo, .int .i64 a.hi, a.kv], .agg #[.int .i64 b.k, .int .i64 b.d, b.tv, .int .i64 b.lo, .int .i64 b.hi, b.kv]] (grow (U.drewN nq) os) fun e w' => e = .returned (.bool (a.same b)) ∧ ∃ q os', w' = grow ((grow (U.drewN nq) os).drewN q) os' := fun nq os =>
        Same_any _ a b (oa.up (below_grown_sl _ U nq os (Nat.le_refl _))) (ob.up (below_grown_sl _ U nq os (Nat.le_refl _))) (by have := HA.out.1; omega) (by have := HBm.out.1; omega)
      have kR : ∀ nq os, Calls Try.prog 18 #[.agg #[.int .i64 a.k, .int .i64 a.d, a.tv, .int .i64 a.lo, .int .i64 a.hi, a.kv], .agg #[.int .i64 b.k, .int .i64 b.d, b.tv, .int .i64 b.lo, .int .i64 b.hi, b.kv]] (grow (U.drewN nq) os) fun e w' => e = .returned (.bool (a.same b)) ∧ ∃ q os', w' = grow ((grow (U.drewN nq) os).drewN q) os' := fun nq os =>
        refsame_any a b _ (oa.up (below_grown_sl _ U nq os (Nat.le_refl _))) (ob.up (below_grown_sl _ U nq os (Nat.le_refl _)))
      have kT : ∀ nq os, Calls Try.prog 17 #[.agg #[.int .i64 a.k, .int .i64 a.d, a.tv, .int .i64 a.lo, .int .i64 a.hi, a.kv], .agg #[.int .i64 a.k, .int .i64 a.d, a.tv, .int .i64 a.lo, .int .i64 a.hi, a.kv]] (grow (U.drewN nq) os) fun e w' => e = .returned (.bool true) ∧ ∃ q os', w' = grow ((grow (U.drewN nq) os).drewN q) os' := fun nq os => by
        have k := Same_any (grow (U.drewN nq) os) a a (oa.up (below_grown_sl _ U nq os (Nat.le_refl _))) (oa.up (below_grown_sl _ U nq os (Nat.le_refl _))) (by have := HA.out.1; omega) (by have := HA.out.1; omega)
        rw [same_er a a rfl] at k
        exact k
      rw [HEa.out.1, HEa.out.2, HEb.out.1, HEb.out.2] at kS kR
      rw [HEa.out.1, HEa.out.2] at kT
      have ca := HC.out.2.1.up b2
      have cb := HC.out.2.2.up b2
      have x0 := fun nq os => cell_gr (ca 0 _ rfl) nq os
      have x1 := fun nq os => cell_gr (ca 1 _ rfl) nq os
      have x2 := fun nq os => cell_gr (ca 2 _ rfl) nq os
      have x3 := fun nq os => cell_gr (ca 3 _ rfl) nq os
      have x4 := fun nq os => cell_gr (ca 4 _ rfl) nq os
      have x5 := fun nq os => cell_gr (ca 5 _ rfl) nq os
      rw [HEa.out.1] at x2
      rw [HEa.out.2] at x5
      have y0 := fun nq os => cell_gr (cb 0 _ rfl) nq os
      have y1 := fun nq os => cell_gr (cb 1 _ rfl) nq os
      have y2 := fun nq os => cell_gr (cb 2 _ rfl) nq os
      have y3 := fun nq os => cell_gr (cb 3 _ rfl) nq os
      have y4 := fun nq os => cell_gr (cb 4 _ rfl) nq os
      have y5 := fun nq os => cell_gr (cb 5 _ rfl) nq os
      rw [HEb.out.1] at y2
      rw [HEb.out.2] at y5
      have HBU : Hid (Below W.heap.size W U) := b2
      generalize a.same b = r at *
      clear ca cb oa ob b2
      go_wp2_with fail
      refine wp_region_quiet_grown (by assumption) (by kernel_rfl) ?_
      repeat (go_big_quiet_step (first | (go_at_call 17; with_reducible refine Calls.grown_of (kS _ _)) | (go_at_call 17; with_reducible refine Calls.grown_of (kT _ _)) | (go_at_call 18; with_reducible refine Calls.grown_of (kR _ _))))
      refine wpQuiet_nil ?_
      intro _ hw'
      obtain ⟨⟨nq, osq⟩, hw''⟩ := hw'
      subst hw''
      have b3 : Below W.heap.size W (grow (U.drewN nq) osq) := HBU.out.trans ((below_grown_sl _ U nq osq (Nat.le_refl _)).mono HBU.out.size)
      have HB3 : Hid _ := b3
      clear b3
      go_wp2_with fail
      go_ret
      exact ⟨by simp, HG.out.below.trans (HB3.out.mono HG.out.below.size)⟩
end Go.Proofs.Ytlfkhinmncbkcaa
