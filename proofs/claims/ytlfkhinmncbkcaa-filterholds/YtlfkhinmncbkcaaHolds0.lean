/- The walk of FilterHolds. -/
import Derived.Test.YtlfkhinmncbkcaaRHoldZ
import Derived.Test.YtlfkhinmncbkcaaRChk
namespace Go.Proofs.Ytlfkhinmncbkcaa
open Go.RowKit Go.Sort

set_option maxHeartbeats 16000000 in
theorem holds_walk (w : World) (t : Tr) (X : Fc) (ht : t.Ok w) (_ : t.Lim) (hX : X.Ok w) :
    Calls Try.prog 4 #[.agg #[.int .i64 t.k, .int .i64 t.d, t.tv, .int .i64 t.lo, .int .i64 t.hi, t.kv], .agg #[.int .i64 X.t, X.dv, X.mv]] w fun e w' => e = .returned (.bool true) ∧ Below w.heap.size w w' := by
  obtain ⟨at', nt, ct, ak, nk, ck, e1, e2, -, -, -, -⟩ := ht.lens
  obtain ⟨ad, nd, cd, am, nm, cm, g1, g2, -⟩ := hX.lens
  obtain ⟨W0, hW0⟩ : ∃ W, W = w.alloc (.cells #[.int .i64 t.k, .int .i64 t.d, t.tv, .int .i64 t.lo, .int .i64 t.hi, t.kv] 27) := ⟨_, rfl⟩
  obtain ⟨W, hW1⟩ : ∃ W, W = W0.alloc (.cells #[.int .i64 X.t, X.dv, X.mv] 35) := ⟨_, rfl⟩
  have s0 : W0.heap.size = w.heap.size + 1 := by rw [hW0]; simp
  have gW : Grows w W := by rw [hW1, hW0]; exact (Grows.alloc _ _).trans (Grows.alloc _ _)
  have cc : ∀ c u, #[Value.int .i64 t.k, .int .i64 t.d, t.tv, .int .i64 t.lo, .int .i64 t.hi, t.kv][c]? = some u → W.cell? ⟨w.heap.size, c, none⟩ = some u := fun c u hc => by
    rw [hW1, hW0]; exact cell_alloc_sl _ (al_new _ _ _ rfl hc)
  have cx : ∀ c u, #[Value.int .i64 X.t, X.dv, X.mv][c]? = some u → W.cell? ⟨w.heap.size + 1, c, none⟩ = some u := fun c u hc => by
    rw [hW1]; exact al_new _ _ _ s0.symm hc
  have hW : W = (w.alloc (.cells #[.int .i64 t.k, .int .i64 t.d, t.tv, .int .i64 t.lo, .int .i64 t.hi, t.kv] 27)).alloc (.cells #[.int .i64 X.t, X.dv, X.mv] 35) := by rw [hW1, hW0]
  have kA := awake_any W
  rw [hW, e1, e2, g1, g2] at kA
  have HC : Aside _ := And.intro cc cx
  have HO : Hid (t.Ok W ∧ X.Ok W) := ⟨ht.up gW.below, hX.up gW.below⟩
  have HEt : Hid (t.tv = .slice at' nt ct ∧ t.kv = .slice ak nk ck) := ⟨e1, e2⟩
  have HEx : Hid (X.dv = .slice ad nd cd ∧ X.mv = .slice am nm cm) := ⟨g1, g2⟩
  have HG : Hid (Grows w W) := gW
  have HW : Hid _ := hW
  have mixed : Try.prog.follows .mixedOrders = true := by kernel_rfl
  rw [e1, e2, g1, g2] at HW ⊢
  clear ht hX hW0 hW1 s0 gW cc cx hW e1 e2 g1 g2
  go_enter Try.func4, Try.ntmps4
  go_wp2_with fail
  refine kA.mono ?_
  rintro e V ⟨rfl, bV⟩
  rw [← HW.out] at bV
  clear kA
  have cc := fun c u hc => cell_up bV (HC.out.1 c u hc)
  have cx := fun c u hc => cell_up bV (HC.out.2 c u hc)
  have okt := HO.out.1.up bV
  have okx := HO.out.2.up bV
  have kS : ∀ nq os, Calls Try.prog 14 #[.agg #[.int .i64 X.t, X.dv, X.mv]] (grow (V.drewN nq) os) fun e w' => e = .returned (.agg #[.int .i64 (X.ds.length : Int), .int .i64 (X.ms.length : Int)]) ∧ ∃ q os', w' = grow ((grow (V.drewN nq) os).drewN q) os' := fun nq os =>
    schema_any _ X (okx.up (below_grown_sl _ V nq os (Nat.le_refl _)))
  rw [HEx.out.1, HEx.out.2] at kS
  have kC : ∀ nq os, Calls Try.prog 11 #[.agg #[.int .i64 (X.ds.length : Int), .int .i64 (X.ms.length : Int)], .agg #[.int .i64 t.k, .int .i64 t.d, t.tv, .int .i64 t.lo, .int .i64 t.hi, t.kv]] (grow (V.drewN nq) os) fun e w' => e = .returned (.int .i64 (errB (t.may X.ds.length X.ms.length))) ∧ ∃ q os', w' = grow ((grow (V.drewN nq) os).drewN q) os' := fun nq os =>
    refcheck_any _ _ _ t (okt.up (below_grown_sl _ V nq os (Nat.le_refl _)))
  rw [HEt.out.1, HEt.out.2] at kC
  have a0 := fun nq os => cell_gr (cc 0 _ rfl) nq os
  have a1 := fun nq os => cell_gr (cc 1 _ rfl) nq os
  have a2 := fun nq os => cell_gr (cc 2 _ rfl) nq os
  have a3 := fun nq os => cell_gr (cc 3 _ rfl) nq os
  have a4 := fun nq os => cell_gr (cc 4 _ rfl) nq os
  have a5 := fun nq os => cell_gr (cc 5 _ rfl) nq os
  rw [HEt.out.1] at a2
  rw [HEt.out.2] at a5
  have x0 := fun nq os => cell_gr (cx 0 _ rfl) nq os
  have x1 := fun nq os => cell_gr (cx 1 _ rfl) nq os
  have x2 := fun nq os => cell_gr (cx 2 _ rfl) nq os
  rw [HEx.out.1] at x1
  rw [HEx.out.2] at x2
  have HBV : Hid (Below W.heap.size W V) := bV
  clear cc cx okt okx bV
  cases hA : t.may X.ds.length X.ms.length with
  | false =>
    rw [hA, show errB false = 1 from rfl] at kC
    go_wp2_with fail
    refine wp_region_quiet_grown (by assumption) (by kernel_rfl) ?_
    repeat (go_big_quiet_step (first | (go_at_call 14; with_reducible refine Calls.grown_of (kS _ _)) | (go_at_call 11; with_reducible refine Calls.grown_of (kC _ _))))
    refine wpQuiet_nil ?_
    intro _ hw'
    obtain ⟨⟨nq, osq⟩, hw''⟩ := hw'
    subst hw''
    obtain ⟨w1, hw1⟩ : ∃ v, v = grow (V.drewN nq) osq := ⟨_, rfl⟩
    rw [← hw1]
    have g1 : Grows V w1 := ⟨nq, osq, hw1⟩
    clear hw1
    have b1 := HBV.out.trans (g1.below.mono HBV.out.size)
    clear kS kC a0 a1 a2 a3 a4 a5 x0 x1 x2 g1
    have cc := fun c u hc => cell_up b1 (HC.out.1 c u hc)
    have cx := fun c u hc => cell_up b1 (HC.out.2 c u hc)
    have okt := HO.out.1.up b1
    have okx := HO.out.2.up b1
    have kS : ∀ nq os, Calls Try.prog 14 #[.agg #[.int .i64 X.t, X.dv, X.mv]] (grow (w1.drewN nq) os) fun e w' => e = .returned (.agg #[.int .i64 (X.ds.length : Int), .int .i64 (X.ms.length : Int)]) ∧ ∃ q os', w' = grow ((grow (w1.drewN nq) os).drewN q) os' := fun nq os =>
      schema_any _ X (okx.up (below_grown_sl _ w1 nq os (Nat.le_refl _)))
    rw [HEx.out.1, HEx.out.2] at kS
    have kC : ∀ nq os, Calls Try.prog 10 #[.agg #[.int .i64 (X.ds.length : Int), .int .i64 (X.ms.length : Int)], .agg #[.int .i64 t.k, .int .i64 t.d, t.tv, .int .i64 t.lo, .int .i64 t.hi, t.kv]] (grow (w1.drewN nq) os) fun e w' => e = .returned (.int .i64 (errB (t.may X.ds.length X.ms.length))) ∧ ∃ q os', w' = grow ((grow (w1.drewN nq) os).drewN q) os' := fun nq os =>
      check_any _ _ _ t (okt.up (below_grown_sl _ w1 nq os (Nat.le_refl _)))
    rw [HEt.out.1, HEt.out.2] at kC
    have a0 := fun nq os => cell_gr (cc 0 _ rfl) nq os
    have a1 := fun nq os => cell_gr (cc 1 _ rfl) nq os
    have a2 := fun nq os => cell_gr (cc 2 _ rfl) nq os
    have a3 := fun nq os => cell_gr (cc 3 _ rfl) nq os
    have a4 := fun nq os => cell_gr (cc 4 _ rfl) nq os
    have a5 := fun nq os => cell_gr (cc 5 _ rfl) nq os
    rw [HEt.out.1] at a2
    rw [HEt.out.2] at a5
    have x0 := fun nq os => cell_gr (cx 0 _ rfl) nq os
    have x1 := fun nq os => cell_gr (cx 1 _ rfl) nq os
    have x2 := fun nq os => cell_gr (cx 2 _ rfl) nq os
    rw [HEx.out.1] at x1
    rw [HEx.out.2] at x2
    rw [hA, show errB false = 1 from rfl] at kC
    have HB1 : Hid (Below W.heap.size W w1) := b1
    clear cc cx okt okx b1
    go_wp2_with fail
    refine wp_region_quiet_grown (by assumption) (by kernel_rfl) ?_
    repeat (go_big_quiet_step (first | (go_at_call 14; with_reducible refine Calls.grown_of (kS _ _)) | (go_at_call 10; with_reducible refine Calls.grown_of (kC _ _))))
    refine wpQuiet_nil ?_
    intro _ hw'
    obtain ⟨⟨nq, osq⟩, hw''⟩ := hw'
    subst hw''
    obtain ⟨w2, hw2⟩ : ∃ v, v = grow (w1.drewN nq) osq := ⟨_, rfl⟩
    rw [← hw2]
    have g2 : Grows w1 w2 := ⟨nq, osq, hw2⟩
    clear hw2
    have b2 := HB1.out.trans (g2.below.mono HB1.out.size)
    go_wp2_with fail
    go_ret
    exact ⟨rfl, HG.out.below.trans (b2.mono HG.out.below.size)⟩
  | true =>
    rw [hA, show errB true = 0 from rfl] at kC
    have HA : Hid _ := may_good hA
    go_wp2_with fail
    refine wp_region_quiet_grown (by assumption) (by kernel_rfl) ?_
    repeat (go_big_quiet_step (first | (go_at_call 14; with_reducible refine Calls.grown_of (kS _ _)) | (go_at_call 11; with_reducible refine Calls.grown_of (kC _ _))))
    refine wpQuiet_nil ?_
    intro _ hw'
    obtain ⟨⟨nq, osq⟩, hw''⟩ := hw'
    subst hw''
    obtain ⟨w1, hw1⟩ : ∃ v, v = grow (V.drewN nq) osq := ⟨_, rfl⟩
    rw [← hw1]
    have g1 : Grows V w1 := ⟨nq, osq, hw1⟩
    clear hw1
    have b1 := HBV.out.trans (g1.below.mono HBV.out.size)
    clear kS kC a0 a1 a2 a3 a4 a5 x0 x1 x2 g1 hA
    have cc := fun c u hc => cell_up b1 (HC.out.1 c u hc)
    have cx := fun c u hc => cell_up b1 (HC.out.2 c u hc)
    have okt := HO.out.1.up b1
    have okx := HO.out.2.up b1
    have kI : ∀ nq os, Calls Try.prog 15 #[.agg #[.int .i64 t.k, .int .i64 t.d, t.tv, .int .i64 t.lo, .int .i64 t.hi, t.kv], .agg #[.int .i64 X.t, X.dv, X.mv]] (grow (w1.drewN nq) os) fun e w' => e = .returned (.bool (t.hold X)) ∧ ∃ q os', w' = grow ((grow (w1.drewN nq) os).drewN q) os' := fun nq os =>
      by rw [← holdG_of (by have := HA.out.1; omega)]; exact Holds_any _ X t (okt.up (below_grown_sl _ w1 nq os (Nat.le_refl _))) (okx.up (below_grown_sl _ w1 nq os (Nat.le_refl _)))
    rw [HEt.out.1, HEt.out.2, HEx.out.1, HEx.out.2] at kI
    have kR : ∀ nq os, Calls Try.prog 16 #[.agg #[.int .i64 t.k, .int .i64 t.d, t.tv, .int .i64 t.lo, .int .i64 t.hi, t.kv], .agg #[.int .i64 X.t, X.dv, X.mv]] (grow (w1.drewN nq) os) fun e w' => e = .returned (.bool (t.hold X)) ∧ ∃ q os', w' = grow ((grow (w1.drewN nq) os).drewN q) os' := fun nq os =>
      refholds_any X t _ (okt.up (below_grown_sl _ w1 nq os (Nat.le_refl _))) (okx.up (below_grown_sl _ w1 nq os (Nat.le_refl _))) HA.out.2.2
    rw [HEt.out.1, HEt.out.2, HEx.out.1, HEx.out.2] at kR
    have a0 := fun nq os => cell_gr (cc 0 _ rfl) nq os
    have a1 := fun nq os => cell_gr (cc 1 _ rfl) nq os
    have a2 := fun nq os => cell_gr (cc 2 _ rfl) nq os
    have a3 := fun nq os => cell_gr (cc 3 _ rfl) nq os
    have a4 := fun nq os => cell_gr (cc 4 _ rfl) nq os
    have a5 := fun nq os => cell_gr (cc 5 _ rfl) nq os
    rw [HEt.out.1] at a2
    rw [HEt.out.2] at a5
    have x0 := fun nq os => cell_gr (cx 0 _ rfl) nq os
    have x1 := fun nq os => cell_gr (cx 1 _ rfl) nq os
    have x2 := fun nq os => cell_gr (cx 2 _ rfl) nq os
    rw [HEx.out.1] at x1
    rw [HEx.out.2] at x2
    have HB1 : Hid (Below W.heap.size W w1) := b1
    generalize t.hold X = p at *
    clear cc cx okt okx b1
    go_wp2_with fail
    refine wp_region_quiet_grown (by assumption) (by kernel_rfl) ?_
    repeat (go_big_quiet_step (first | (go_at_call 15; with_reducible refine Calls.grown_of (kI _ _)) | (go_at_call 16; with_reducible refine Calls.grown_of (kR _ _))))
    refine wpQuiet_nil ?_
    intro _ hw'
    obtain ⟨⟨nq, osq⟩, hw''⟩ := hw'
    subst hw''
    obtain ⟨w2, hw2⟩ : ∃ v, v = grow (w1.drewN nq) osq := ⟨_, rfl⟩
    rw [← hw2]
    have g2 : Grows w1 w2 := ⟨nq, osq, hw2⟩
    clear hw2
    have b2 := HB1.out.trans (g2.below.mono HB1.out.size)
    go_wp2_with fail
    go_ret
    exact ⟨by simp, HG.out.below.trans (b2.mono HG.out.below.size)⟩
end Go.Proofs.Ytlfkhinmncbkcaa
