/- The walk of FilterNots. -/
import Derived.Test.YtlfkhinmncbkcaaLaws0
namespace Go.Proofs.Ytlfkhinmncbkcaa
open Go.RowKit Go.Sort

set_option maxHeartbeats 16000000 in
theorem nots_walk (w : World) (t : Tr) (X : Fc) (ht : t.Ok w) (lim : t.Lim) (hX : X.Ok w) :
    Calls Try.prog 7 #[.agg #[.int .i64 t.k, .int .i64 t.d, t.tv, .int .i64 t.lo, .int .i64 t.hi, t.kv], .agg #[.int .i64 X.t, X.dv, X.mv]] w fun e w' => e = .returned (.bool true) ∧ Below w.heap.size w w' := by
  obtain ⟨at', nt, ct, ak, nk, ck, e1, e2, -, -, -, -⟩ := ht.lens
  obtain ⟨ad, nd, cd, am, nm, cm, g1, g2, -⟩ := hX.lens
  obtain ⟨W0, hW0⟩ : ∃ W, W = w.alloc (.cells #[.int .i64 t.k, .int .i64 t.d, t.tv, .int .i64 t.lo, .int .i64 t.hi, t.kv] 27) := ⟨_, rfl⟩
  obtain ⟨W, hW1⟩ : ∃ W, W = W0.alloc (.cells #[.int .i64 X.t, X.dv, X.mv] 35) := ⟨_, rfl⟩
  have s0 : W0.heap.size = w.heap.size + 1 := by rw [hW0]; simp
  have gW : Grows w W := by rw [hW1, hW0]; exact (Grows.alloc _ _).trans (Grows.alloc _ _)
  have cc : ∀ c u, #[Value.int .i64 t.k, .int .i64 t.d, t.tv, .int .i64 t.lo, .int .i64 t.hi, t.kv][c]? = some u → W.cell? ⟨w.heap.size, c, none⟩ = some u := fun c u hc => by
    rw [hW1, hW0]; exact cell_alloc_sl _ (al_new _ _ _ rfl hc)
  have cx : ∀ c u, #[Value.int .i64 X.t, X.dv, X.mv][c]? = some u → W.cell? ⟨w.heap.size + 1, c, none⟩ = some u := fun c u hc => by
    rw [hW1]; exact al_new _ _ _ s0.symm hc
  have hW : W = (w.alloc (.cells #[.int .i64 t.k, .int .i64 t.d, t.tv, .int .i64 t.lo, .int .i64 t.hi, t.kv] 27)).alloc (.cells #[.int .i64 X.t, X.dv, X.mv] 35) := by rw [hW1, hW0]
  have kA := awake_any W
  rw [hW, e1, e2, g1, g2] at kA
  have HC : Aside _ := And.intro cc cx
  have HO : Hid (t.Ok W ∧ X.Ok W ∧ t.Lim) := ⟨ht.up gW.below, hX.up gW.below, lim⟩
  have HEt : Hid (t.tv = .slice at' nt ct ∧ t.kv = .slice ak nk ck) := ⟨e1, e2⟩
  have HEx : Hid (X.dv = .slice ad nd cd ∧ X.mv = .slice am nm cm) := ⟨g1, g2⟩
  have HG : Hid (Grows w W) := gW
  have HW : Hid _ := hW
  have mixed : Try.prog.follows .mixedOrders = true := by kernel_rfl
  rw [e1, e2, g1, g2] at HW ⊢
  clear ht lim hX hW0 hW1 s0 gW cc cx hW e1 e2 g1 g2
  go_enter Try.func7, Try.ntmps7
  go_wp2_with fail
  refine kA.mono ?_
  rintro e V ⟨rfl, bV⟩
  rw [← HW.out] at bV
  clear kA
  have cc := fun c u hc => cell_up bV (HC.out.1 c u hc)
  have cx := fun c u hc => cell_up bV (HC.out.2 c u hc)
  have okt := HO.out.1.up bV
  have okx := HO.out.2.1.up bV
  have kS : ∀ nq os, Calls Try.prog 14 #[.agg #[.int .i64 X.t, X.dv, X.mv]] (grow (V.drewN nq) os) fun e w' => e = .returned (.agg #[.int .i64 (X.ds.length : Int), .int .i64 (X.ms.length : Int)]) ∧ ∃ q os', w' = grow ((grow (V.drewN nq) os).drewN q) os' := fun nq os =>
    schema_any _ X (okx.up (below_grown_sl _ V nq os (Nat.le_refl _)))
  rw [HEx.out.1, HEx.out.2] at kS
  have kC : ∀ nq os, Calls Try.prog 10 #[.agg #[.int .i64 (X.ds.length : Int), .int .i64 (X.ms.length : Int)], .agg #[.int .i64 t.k, .int .i64 t.d, t.tv, .int .i64 t.lo, .int .i64 t.hi, t.kv]] (grow (V.drewN nq) os) fun e w' => e = .returned (.int .i64 (errB (t.may X.ds.length X.ms.length))) ∧ ∃ q os', w' = grow ((grow (V.drewN nq) os).drewN q) os' := fun nq os =>
    check_any _ _ _ t (okt.up (below_grown_sl _ V nq os (Nat.le_refl _)))
  rw [HEt.out.1, HEt.out.2] at kC
  have a0 := fun nq os => cell_gr (cc 0 _ rfl) nq os
  have a1 := fun nq os => cell_gr (cc 1 _ rfl) nq os
  have a2 := fun nq os => cell_gr (cc 2 _ rfl) nq os
  have a3 := fun nq os => cell_gr (cc 3 _ rfl) nq os
  have a4 := fun nq os => cell_gr (cc 4 _ rfl) nq os
  have a5 := fun nq os => cell_gr (cc 5 _ rfl) nq os
  rw [HEt.out.1] at a2
  rw [HEt.out.2] at a5
  have x0 := fun nq os => cell_gr (cx 0 _ rfl) nq os
  have x1 := fun nq os => cell_gr (cx 1 _ rfl) nq os
  have x2 := fun nq os => cell_gr (cx 2 _ rfl) nq os
  rw [HEx.out.1] at x1
  rw [HEx.out.2] at x2
  have HBV : Hid (Below W.heap.size W V) := bV
  clear cc cx okt okx bV
  cases hA : t.may X.ds.length X.ms.length with
  | false =>
    rw [hA, show errB false = 1 from rfl] at kC
    go_wp2_with fail
    refine wp_region_quiet_grown (by assumption) (by kernel_rfl) ?_
    repeat (go_big_quiet_step (first | (go_at_call 14; with_reducible refine Calls.grown_of (kS _ _)) | (go_at_call 10; with_reducible refine Calls.grown_of (kC _ _))))
    refine wpQuiet_nil ?_
    intro _ hw'
    obtain ⟨⟨nq, osq⟩, hw''⟩ := hw'
    subst hw''
    obtain ⟨w1, hw1⟩ : ∃ v, v = grow (V.drewN nq) osq := ⟨_, rfl⟩
    rw [← hw1]
    have g1 : Grows V w1 := ⟨nq, osq, hw1⟩
    clear hw1
    have b1 := HBV.out.trans (g1.below.mono HBV.out.size)
    go_wp2_with fail
    go_ret
    exact ⟨rfl, HG.out.below.trans (b1.mono HG.out.below.size)⟩
  | true =>
    rw [hA, show errB true = 0 from rfl] at kC
    have HA : Hid _ := may_good hA
    have HMT : Hid _ := hA
    go_wp2_with fail
    refine wp_region_quiet_grown (by assumption) (by kernel_rfl) ?_
    repeat (go_big_quiet_step (first | (go_at_call 14; with_reducible refine Calls.grown_of (kS _ _)) | (go_at_call 10; with_reducible refine Calls.grown_of (kC _ _))))
    refine wpQuiet_nil ?_
    intro _ hw'
    obtain ⟨⟨nq, osq⟩, hw''⟩ := hw'
    subst hw''
    obtain ⟨w1, hw1⟩ : ∃ v, v = grow (V.drewN nq) osq := ⟨_, rfl⟩
    rw [← hw1]
    have g1 : Grows V w1 := ⟨nq, osq, hw1⟩
    clear hw1
    have b1 := HBV.out.trans (g1.below.mono HBV.out.size)
    clear kS kC a0 a1 a2 a3 a4 a5 x0 x1 x2 hA g1
    have cc := fun c u hc => cell_up b1 (HC.out.1 c u hc)
    have kN := not_any t w1 (HO.out.1.up b1) HO.out.2.2 (by have := HA.out.1; omega)
    rw [HEt.out.1, HEt.out.2] at kN
    have a0 := cc 0 _ rfl
    have a1 := cc 1 _ rfl
    have a2 := cc 2 _ rfl
    have a3 := cc 3 _ rfl
    have a4 := cc 4 _ rfl
    have a5 := cc 5 _ rfl
    rw [HEt.out.1] at a2
    rw [HEt.out.2] at a5
    have HB1 : Hid (Below W.heap.size W w1) := b1
    clear cc b1
    go_wp2_with fail
    refine kN.mono ?_
    rintro e w2 ⟨n, rfl, okn, -, ern, b2⟩
    clear kN a0 a1 a2 a3 a4 a5
    obtain ⟨hn4, hnd, hnf, hnh, hnl⟩ := turned (X := X) HMT.out ern HO.out.2.2
    obtain ⟨at2, nt2, ct2, ak2, nk2, ck2, f1, f2, -, -, -, -⟩ := okn.lens
    obtain ⟨U, hU⟩ : ∃ V, V = w2.alloc (.cells #[.int .i64 n.k, .int .i64 n.d, n.tv, .int .i64 n.lo, .int .i64 n.hi, n.kv] 27) := ⟨_, rfl⟩
    have gU : Grows w2 U := by rw [hU]; exact Grows.alloc _ _
    have bU : Below W.heap.size W U := (HB1.out.trans (b2.mono HB1.out.size)).trans (gU.below.mono (Nat.le_trans HB1.out.size b2.size))
    have cn : ∀ c u, #[Value.int .i64 n.k, .int .i64 n.d, n.tv, .int .i64 n.lo, .int .i64 n.hi, n.kv][c]? = some u → U.cell? ⟨w2.heap.size, c, none⟩ = some u := fun c u hc => by rw [hU]; exact al_new _ _ _ rfl hc
    have cc := fun c u hc => cell_up bU (HC.out.1 c u hc)
    have cx := fun c u hc => cell_up bU (HC.out.2 c u hc)
    have HCU : Aside _ := And.intro cc (And.intro cx cn)
    have HOU : Hid (t.Ok U ∧ n.Ok U ∧ X.Ok U) := ⟨HO.out.1.up bU, okn.up gU.below, HO.out.2.1.up bU⟩
    have HEn : Hid (n.tv = .slice at2 nt2 ct2 ∧ n.kv = .slice ak2 nk2 ck2) := ⟨f1, f2⟩
    have HBU : Hid (Below w.heap.size w U) := HG.out.below.trans (bU.mono HG.out.below.size)
    have HN : Hid (n.sz ≤ 400 ∧ n.dp ≤ t.dp + 1 ∧ n.fitA X.ds.length X.ms.length = true ∧ n.hold X = (!t.hold X) ∧ n.Lim) := ⟨hn4, hnd, hnf, hnh, hnl⟩
    rw [f1, f2] at hU ⊢
    have HU : Hid _ := hU
    have okt := HOU.out.1
    have okn := HOU.out.2.1
    have hd1 := Nat.le_trans (dp_le_sz n) hn4
    have hd2 := HA.out.2.1
    have kD : ∀ nq os, Calls Try.prog 22 #[.agg #[.int .i64 n.k, .int .i64 n.d, n.tv, .int .i64 n.lo, .int .i64 n.hi, n.kv]] (grow (U.drewN nq) os) fun e w' => e = .returned (.int .i64 ((n.dp : Nat) : Int)) ∧ ∃ q os', w' = grow ((grow (U.drewN nq) os).drewN q) os' := fun nq os =>
      refdepth_any _ n (Nat.lt_succ_self _) _ (okn.up (below_grown_sl _ U nq os (Nat.le_refl _))) (by omega)
    rw [HEn.out.1, HEn.out.2] at kD
    have kE : ∀ nq os, Calls Try.prog 22 #[.agg #[.int .i64 t.k, .int .i64 t.d, t.tv, .int .i64 t.lo, .int .i64 t.hi, t.kv]] (grow (U.drewN nq) os) fun e w' => e = .returned (.int .i64 ((t.dp : Nat) : Int)) ∧ ∃ q os', w' = grow ((grow (U.drewN nq) os).drewN q) os' := fun nq os =>
      refdepth_any _ t (Nat.lt_succ_self _) _ (okt.up (below_grown_sl _ U nq os (Nat.le_refl _))) (by have := HA.out.1; omega)
    rw [HEt.out.1, HEt.out.2] at kE
    obtain ⟨P, hP⟩ : ∃ P, P = n.dp := ⟨_, rfl⟩
    obtain ⟨R, hR⟩ : ∃ R, R = t.dp := ⟨_, rfl⟩
    rw [← hP] at kD hnd hd1
    rw [← hR] at kE hnd hd2
    have hPR : decide ((R : Int) + 1 < (P : Int)) = false := decide_eq_false (by omega)
    have hPR2 : ¬ ((R : Int) + 1 < (P : Int)) := by omega
    have HPn : Hid (P = n.dp) := hP
    have n0 := fun nq os => cell_gr (cn 0 _ rfl) nq os
    have n1 := fun nq os => cell_gr (cn 1 _ rfl) nq os
    have n2 := fun nq os => cell_gr (cn 2 _ rfl) nq os
    have n3 := fun nq os => cell_gr (cn 3 _ rfl) nq os
    have n4 := fun nq os => cell_gr (cn 4 _ rfl) nq os
    have n5 := fun nq os => cell_gr (cn 5 _ rfl) nq os
    rw [HEn.out.1] at n2
    rw [HEn.out.2] at n5
    have a0 := fun nq os => cell_gr (cc 0 _ rfl) nq os
    have a1 := fun nq os => cell_gr (cc 1 _ rfl) nq os
    have a2 := fun nq os => cell_gr (cc 2 _ rfl) nq os
    have a3 := fun nq os => cell_gr (cc 3 _ rfl) nq os
    have a4 := fun nq os => cell_gr (cc 4 _ rfl) nq os
    have a5 := fun nq os => cell_gr (cc 5 _ rfl) nq os
    rw [HEt.out.1] at a2
    rw [HEt.out.2] at a5
    clear cn cc cx hn4 hnf hnh hnl hP hR okt okn f1 f2 hU gU bU b2 ern hnd
    go_wp2_with fail
    rw [← HU.out]
    refine wp_region_quiet_grown (by assumption) (by kernel_rfl) ?_
    repeat (go_big_quiet_step (first | (go_at_call 22; with_reducible refine Calls.grown_of (kD _ _)) | (go_at_call 22; with_reducible refine Calls.grown_of (kE _ _))))
    refine wpQuiet_nil ?_
    intro _ hw'
    obtain ⟨⟨nq, osq⟩, hw''⟩ := hw'
    subst hw''
    obtain ⟨w3, hw3⟩ : ∃ v, v = grow (U.drewN nq) osq := ⟨_, rfl⟩
    rw [← hw3]
    have g3 : Grows U w3 := ⟨nq, osq, hw3⟩
    clear hw3
    clear kD kE n0 n1 n2 n3 n4 n5 a0 a1 a2 a3 a4 a5 hPR hPR2
    have okn := HOU.out.2.1.up g3.below
    have okx := HOU.out.2.2.up g3.below
    have cn := fun c u hc => cell_up g3.below (HCU.out.2.2 c u hc)
    have cx := fun c u hc => cell_up g3.below (HCU.out.2.1 c u hc)
    have kS : ∀ nq os, Calls Try.prog 14 #[.agg #[.int .i64 X.t, X.dv, X.mv]] (grow (w3.drewN nq) os) fun e w' => e = .returned (.agg #[.int .i64 (X.ds.length : Int), .int .i64 (X.ms.length : Int)]) ∧ ∃ q os', w' = grow ((grow (w3.drewN nq) os).drewN q) os' := fun nq os =>
      schema_any _ X (okx.up (below_grown_sl _ w3 nq os (Nat.le_refl _)))
    rw [HEx.out.1, HEx.out.2] at kS
    have kC : ∀ nq os, Calls Try.prog 10 #[.agg #[.int .i64 (X.ds.length : Int), .int .i64 (X.ms.length : Int)], .agg #[.int .i64 n.k, .int .i64 n.d, n.tv, .int .i64 n.lo, .int .i64 n.hi, n.kv]] (grow (w3.drewN nq) os) fun e w' => e = .returned (.int .i64 (errB (n.may X.ds.length X.ms.length))) ∧ ∃ q os', w' = grow ((grow (w3.drewN nq) os).drewN q) os' := fun nq os =>
      check_any _ _ _ n (okn.up (below_grown_sl _ w3 nq os (Nat.le_refl _)))
    rw [HEn.out.1, HEn.out.2] at kC
    have n0 := fun nq os => cell_gr (cn 0 _ rfl) nq os
    have n1 := fun nq os => cell_gr (cn 1 _ rfl) nq os
    have n2 := fun nq os => cell_gr (cn 2 _ rfl) nq os
    have n3 := fun nq os => cell_gr (cn 3 _ rfl) nq os
    have n4 := fun nq os => cell_gr (cn 4 _ rfl) nq os
    have n5 := fun nq os => cell_gr (cn 5 _ rfl) nq os
    rw [HEn.out.1] at n2
    rw [HEn.out.2] at n5
    have x0 := fun nq os => cell_gr (cx 0 _ rfl) nq os
    have x1 := fun nq os => cell_gr (cx 1 _ rfl) nq os
    have x2 := fun nq os => cell_gr (cx 2 _ rfl) nq os
    rw [HEx.out.1] at x1
    rw [HEx.out.2] at x2
    have HG3 : Hid (Grows U w3) := g3
    clear cn cx okn okx g3
    cases hB : n.may X.ds.length X.ms.length with
    | false =>
      rw [hB, show errB false = 1 from rfl] at kC
      have HBad : Hid _ := may_bad hB HN.out.2.2.1
      go_wp2_with fail
      refine wp_region_quiet_grown (by assumption) (by kernel_rfl) ?_
      repeat (go_big_quiet_step (first | (go_at_call 14; with_reducible refine Calls.grown_of (kS _ _)) | (go_at_call 10; with_reducible refine Calls.grown_of (kC _ _))))
      refine wpQuiet_nil ?_
      intro _ hw'
      obtain ⟨⟨nq, osq⟩, hw''⟩ := hw'
      subst hw''
      obtain ⟨w4, hw4⟩ : ∃ v, v = grow (w3.drewN nq) osq := ⟨_, rfl⟩
      rw [← hw4]
      have g4 : Grows w3 w4 := ⟨nq, osq, hw4⟩
      clear hw4
      have g4 := HG3.out.trans g4
      clear kS kC n0 n1 n2 n3 n4 n5 x0 x1 x2 hB
      have kD := size_any w4 n (HOU.out.2.1.up g4.below)
      rw [HEn.out.1, HEn.out.2] at kD
      obtain ⟨S, hS⟩ : ∃ S, S = min 201 n.sz := ⟨_, rfl⟩
      rw [← hS] at kD
      have hS1 : S ≤ 201 := by omega
      have HS : Hid (S = min 201 n.sz) := hS
      have cn := fun c u hc => cell_up g4.below (HCU.out.2.2 c u hc)
      have n0 := cn 0 _ rfl
      have n1 := cn 1 _ rfl
      have n2 := cn 2 _ rfl
      have n3 := cn 3 _ rfl
      have n4 := cn 4 _ rfl
      have n5 := cn 5 _ rfl
      rw [HEn.out.1] at n2
      rw [HEn.out.2] at n5
      have HG4 : Hid (Grows U w4) := g4
      clear cn g4 hS
      go_wp2_with fail
      refine kD.mono ?_
      rintro e w5 ⟨rfl, g5⟩
      have g5 := HG4.out.trans g5
      clear kD n0 n1 n2 n3 n4 n5
      by_cases c3 : (200 : Int) < (S : Int)
      · have c3d : decide ((200 : Int) < (S : Int)) = true := decide_eq_true c3
        go_wp2_with fail
        go_ret
        exact ⟨by simp, HBU.out.trans (g5.below.mono HBU.out.size)⟩
      · have c3d : decide ((200 : Int) < (S : Int)) = false := decide_eq_false c3
        have kD := refdepth_any _ n (Nat.lt_succ_self _) w5 (HOU.out.2.1.up g5.below) (by have := HN.out.1; omega)
        rw [HEn.out.1, HEn.out.2, ← HPn.out] at kD
        have c4 : (20 : Int) < (P : Int) := by have := HBad.out; have := HS.out; have := HPn.out; omega
        have cn := fun c u hc => cell_up g5.below (HCU.out.2.2 c u hc)
        have n0 := cn 0 _ rfl
        have n1 := cn 1 _ rfl
        have n2 := cn 2 _ rfl
        have n3 := cn 3 _ rfl
        have n4 := cn 4 _ rfl
        have n5 := cn 5 _ rfl
        rw [HEn.out.1] at n2
        rw [HEn.out.2] at n5
        have HG5 : Hid (Grows U w5) := g5
        clear cn g5
        go_wp2_with fail
        refine kD.mono ?_
        rintro e w6 ⟨rfl, g6⟩
        have g6 := HG5.out.trans g6
        go_wp2_with fail
        go_ret
        exact ⟨by simp, HBU.out.trans (g6.below.mono HBU.out.size)⟩
    | true =>
      rw [hB, show errB true = 0 from rfl] at kC
      have HMN : Hid _ := hB
      go_wp2_with fail
      refine wp_region_quiet_grown (by assumption) (by kernel_rfl) ?_
      repeat (go_big_quiet_step (first | (go_at_call 14; with_reducible refine Calls.grown_of (kS _ _)) | (go_at_call 10; with_reducible refine Calls.grown_of (kC _ _))))
      refine wpQuiet_nil ?_
      intro _ hw'
      obtain ⟨⟨nq, osq⟩, hw''⟩ := hw'
      subst hw''
      obtain ⟨w4, hw4⟩ : ∃ v, v = grow (w3.drewN nq) osq := ⟨_, rfl⟩
      rw [← hw4]
      have g4 : Grows w3 w4 := ⟨nq, osq, hw4⟩
      clear hw4
      have g4 := HG3.out.trans g4
      clear kS kC n0 n1 n2 n3 n4 n5 x0 x1 x2 hB
      have kN := not_any n w4 (HOU.out.2.1.up g4.below) HN.out.2.2.2.2 HN.out.1
      rw [HEn.out.1, HEn.out.2] at kN
      have cn := fun c u hc => cell_up g4.below (HCU.out.2.2 c u hc)
      have n0 := cn 0 _ rfl
      have n1 := cn 1 _ rfl
      have n2 := cn 2 _ rfl
      have n3 := cn 3 _ rfl
      have n4 := cn 4 _ rfl
      have n5 := cn 5 _ rfl
      rw [HEn.out.1] at n2
      rw [HEn.out.2] at n5
      have HG4 : Hid (Grows U w4) := g4
      clear cn g4
      go_wp2_with fail
      refine kN.mono ?_
      rintro e w5 ⟨m, rfl, okm, -, erm, b5⟩
      clear kN n0 n1 n2 n3 n4 n5
      obtain ⟨hm4, -, hmf, hmh, -⟩ := turned (X := X) HMN.out erm HN.out.2.2.2.2
      obtain ⟨at3, nt3, ct3, ak3, nk3, ck3, f1, f2, -, -, -, -⟩ := okm.lens
      obtain ⟨Z, hZ⟩ : ∃ V, V = w5.alloc (.cells #[.int .i64 m.k, .int .i64 m.d, m.tv, .int .i64 m.lo, .int .i64 m.hi, m.kv] 27) := ⟨_, rfl⟩
      have gZ : Grows w5 Z := by rw [hZ]; exact Grows.alloc _ _
      have bZ : Below U.heap.size U Z := (HG4.out.below.trans (b5.mono HG4.out.below.size)).trans (gZ.below.mono (Nat.le_trans HG4.out.below.size b5.size))
      have cm : ∀ c u, #[Value.int .i64 m.k, .int .i64 m.d, m.tv, .int .i64 m.lo, .int .i64 m.hi, m.kv][c]? = some u → Z.cell? ⟨w5.heap.size, c, none⟩ = some u := fun c u hc => by rw [hZ]; exact al_new _ _ _ rfl hc
      have cc := fun c u hc => cell_up bZ (HCU.out.1 c u hc)
      have cx := fun c u hc => cell_up bZ (HCU.out.2.1 c u hc)
      have cn := fun c u hc => cell_up bZ (HCU.out.2.2 c u hc)
      have HCZ : Aside _ := And.intro cc (And.intro cx cm)
      have HOZ : Hid (t.Ok Z ∧ m.Ok Z ∧ X.Ok Z) := ⟨HOU.out.1.up bZ, okm.up gZ.below, HOU.out.2.2.up bZ⟩
      have HEm : Hid (m.tv = .slice at3 nt3 ct3 ∧ m.kv = .slice ak3 nk3 ck3) := ⟨f1, f2⟩
      have HBZ : Hid (Below w.heap.size w Z) := HBU.out.trans (bZ.mono HBU.out.size)
      have HM : Hid (m.sz ≤ 400 ∧ m.hold X = t.hold X) := ⟨hm4, by rw [hmh, HN.out.2.2.2.1]; simp⟩
      rw [f1, f2] at hZ ⊢
      have HZ : Hid _ := hZ
      have okt := HOZ.out.1
      have okx := HOZ.out.2.2
      have okn := HOU.out.2.1.up bZ
      have kH : ∀ nq os, Calls Try.prog 15 #[.agg #[.int .i64 n.k, .int .i64 n.d, n.tv, .int .i64 n.lo, .int .i64 n.hi, n.kv], .agg #[.int .i64 X.t, X.dv, X.mv]] (grow (Z.drewN nq) os) fun e w' => e = .returned (.bool (!t.hold X)) ∧ ∃ q os', w' = grow ((grow (Z.drewN nq) os).drewN q) os' := fun nq os =>
        by rw [← HN.out.2.2.2.1, ← holdG_of HN.out.1]; exact Holds_any _ X n (okn.up (below_grown_sl _ Z nq os (Nat.le_refl _))) (okx.up (below_grown_sl _ Z nq os (Nat.le_refl _)))
      rw [HEn.out.1, HEn.out.2, HEx.out.1, HEx.out.2] at kH
      have kI : ∀ nq os, Calls Try.prog 15 #[.agg #[.int .i64 t.k, .int .i64 t.d, t.tv, .int .i64 t.lo, .int .i64 t.hi, t.kv], .agg #[.int .i64 X.t, X.dv, X.mv]] (grow (Z.drewN nq) os) fun e w' => e = .returned (.bool (t.hold X)) ∧ ∃ q os', w' = grow ((grow (Z.drewN nq) os).drewN q) os' := fun nq os =>
        by rw [← holdG_of (by have := HA.out.1; omega)]; exact Holds_any _ X t (okt.up (below_grown_sl _ Z nq os (Nat.le_refl _))) (okx.up (below_grown_sl _ Z nq os (Nat.le_refl _)))
      rw [HEt.out.1, HEt.out.2, HEx.out.1, HEx.out.2] at kI
      obtain ⟨p, hp⟩ : ∃ p, p = t.hold X := ⟨_, rfl⟩
      rw [← hp] at kH kI
      have HP : Hid (p = t.hold X) := hp
      have n0 := fun nq os => cell_gr (cn 0 _ rfl) nq os
      have n1 := fun nq os => cell_gr (cn 1 _ rfl) nq os
      have n2 := fun nq os => cell_gr (cn 2 _ rfl) nq os
      have n3 := fun nq os => cell_gr (cn 3 _ rfl) nq os
      have n4 := fun nq os => cell_gr (cn 4 _ rfl) nq os
      have n5 := fun nq os => cell_gr (cn 5 _ rfl) nq os
      rw [HEn.out.1] at n2
      rw [HEn.out.2] at n5
      have a0 := fun nq os => cell_gr (cc 0 _ rfl) nq os
      have a1 := fun nq os => cell_gr (cc 1 _ rfl) nq os
      have a2 := fun nq os => cell_gr (cc 2 _ rfl) nq os
      have a3 := fun nq os => cell_gr (cc 3 _ rfl) nq os
      have a4 := fun nq os => cell_gr (cc 4 _ rfl) nq os
      have a5 := fun nq os => cell_gr (cc 5 _ rfl) nq os
      rw [HEt.out.1] at a2
      rw [HEt.out.2] at a5
      have x0 := fun nq os => cell_gr (cx 0 _ rfl) nq os
      have x1 := fun nq os => cell_gr (cx 1 _ rfl) nq os
      have x2 := fun nq os => cell_gr (cx 2 _ rfl) nq os
      rw [HEx.out.1] at x1
      rw [HEx.out.2] at x2
      clear cn cm cc cx hm4 hmf hmh okt okn okx f1 f2 hZ gZ bZ b5 erm hp
      have hpp : ((!p) == p) = false := by cases p <;> rfl
      go_wp2_with fail
      rw [← HZ.out]
      refine wp_region_quiet_grown (by assumption) (by kernel_rfl) ?_
      repeat (go_big_quiet_step (first | (go_at_call 15; with_reducible refine Calls.grown_of (kH _ _)) | (go_at_call 15; with_reducible refine Calls.grown_of (kI _ _))))
      refine wpQuiet_nil ?_
      intro _ hw'
      obtain ⟨⟨nq, osq⟩, hw''⟩ := hw'
      subst hw''
      obtain ⟨w6, hw6⟩ : ∃ v, v = grow (Z.drewN nq) osq := ⟨_, rfl⟩
      rw [← hw6]
      have g6 : Grows Z w6 := ⟨nq, osq, hw6⟩
      clear hw6
      clear kH kI n0 n1 n2 n3 n4 n5 a0 a1 a2 a3 a4 a5 x0 x1 x2 hpp
      cases p <;>
        (go_wp2_with fail
         have okt := HOZ.out.1.up g6.below
         have okm := HOZ.out.2.1.up g6.below
         have okx := HOZ.out.2.2.up g6.below
         have cc := fun c u hc => cell_up g6.below (HCZ.out.1 c u hc)
         have cx := fun c u hc => cell_up g6.below (HCZ.out.2.1 c u hc)
         have cm := fun c u hc => cell_up g6.below (HCZ.out.2.2 c u hc)
         have kS : ∀ nq os, Calls Try.prog 14 #[.agg #[.int .i64 X.t, X.dv, X.mv]] (grow (w6.drewN nq) os) fun e w' => e = .returned (.agg #[.int .i64 (X.ds.length : Int), .int .i64 (X.ms.length : Int)]) ∧ ∃ q os', w' = grow ((grow (w6.drewN nq) os).drewN q) os' := fun nq os =>
           schema_any _ X (okx.up (below_grown_sl _ w6 nq os (Nat.le_refl _)))
         rw [HEx.out.1, HEx.out.2] at kS
         have kC : ∀ nq os, Calls Try.prog 10 #[.agg #[.int .i64 (X.ds.length : Int), .int .i64 (X.ms.length : Int)], .agg #[.int .i64 m.k, .int .i64 m.d, m.tv, .int .i64 m.lo, .int .i64 m.hi, m.kv]] (grow (w6.drewN nq) os) fun e w' => e = .returned (.int .i64 (errB (m.may X.ds.length X.ms.length))) ∧ ∃ q os', w' = grow ((grow (w6.drewN nq) os).drewN q) os' := fun nq os =>
           check_any _ _ _ m (okm.up (below_grown_sl _ w6 nq os (Nat.le_refl _)))
         rw [HEm.out.1, HEm.out.2] at kC
         have kH : ∀ nq os, Calls Try.prog 15 #[.agg #[.int .i64 m.k, .int .i64 m.d, m.tv, .int .i64 m.lo, .int .i64 m.hi, m.kv], .agg #[.int .i64 X.t, X.dv, X.mv]] (grow (w6.drewN nq) os) fun e w' => e = .returned (.bool (t.hold X)) ∧ ∃ q os', w' = grow ((grow (w6.drewN nq) os).drewN q) os' := fun nq os =>
           by rw [← HM.out.2, ← holdG_of HM.out.1]; exact Holds_any _ X m (okm.up (below_grown_sl _ w6 nq os (Nat.le_refl _))) (okx.up (below_grown_sl _ w6 nq os (Nat.le_refl _)))
         rw [HEm.out.1, HEm.out.2, HEx.out.1, HEx.out.2] at kH
         have kI : ∀ nq os, Calls Try.prog 15 #[.agg #[.int .i64 t.k, .int .i64 t.d, t.tv, .int .i64 t.lo, .int .i64 t.hi, t.kv], .agg #[.int .i64 X.t, X.dv, X.mv]] (grow (w6.drewN nq) os) fun e w' => e = .returned (.bool (t.hold X)) ∧ ∃ q os', w' = grow ((grow (w6.drewN nq) os).drewN q) os' := fun nq os =>
           by rw [← holdG_of (by have := HA.out.1; omega)]; exact Holds_any _ X t (okt.up (below_grown_sl _ w6 nq os (Nat.le_refl _))) (okx.up (below_grown_sl _ w6 nq os (Nat.le_refl _)))
         rw [HEt.out.1, HEt.out.2, HEx.out.1, HEx.out.2] at kI
         rw [← HP.out] at kH kI
         have m0 := fun nq os => cell_gr (cm 0 _ rfl) nq os
         have m1 := fun nq os => cell_gr (cm 1 _ rfl) nq os
         have m2 := fun nq os => cell_gr (cm 2 _ rfl) nq os
         have m3 := fun nq os => cell_gr (cm 3 _ rfl) nq os
         have m4 := fun nq os => cell_gr (cm 4 _ rfl) nq os
         have m5 := fun nq os => cell_gr (cm 5 _ rfl) nq os
         rw [HEm.out.1] at m2
         rw [HEm.out.2] at m5
         have a0 := fun nq os => cell_gr (cc 0 _ rfl) nq os
         have a1 := fun nq os => cell_gr (cc 1 _ rfl) nq os
         have a2 := fun nq os => cell_gr (cc 2 _ rfl) nq os
         have a3 := fun nq os => cell_gr (cc 3 _ rfl) nq os
         have a4 := fun nq os => cell_gr (cc 4 _ rfl) nq os
         have a5 := fun nq os => cell_gr (cc 5 _ rfl) nq os
         rw [HEt.out.1] at a2
         rw [HEt.out.2] at a5
         have x0 := fun nq os => cell_gr (cx 0 _ rfl) nq os
         have x1 := fun nq os => cell_gr (cx 1 _ rfl) nq os
         have x2 := fun nq os => cell_gr (cx 2 _ rfl) nq os
         rw [HEx.out.1] at x1
         rw [HEx.out.2] at x2
         have HG6 : Hid (Grows Z w6) := g6
         clear cc cx cm okt okm okx g6
         cases hM : m.may X.ds.length X.ms.length with
         | false =>
           rw [hM, show errB false = 1 from rfl] at kC
           refine wp_region_quiet_grown (by assumption) (by kernel_rfl) ?_
           repeat (go_big_quiet_step (first | (go_at_call 14; with_reducible refine Calls.grown_of (kS _ _)) | (go_at_call 10; with_reducible refine Calls.grown_of (kC _ _))))
           refine wpQuiet_nil ?_
           intro _ hw'
           obtain ⟨⟨nq, osq⟩, hw''⟩ := hw'
           subst hw''
           obtain ⟨w7, hw7⟩ : ∃ v, v = grow (w6.drewN nq) osq := ⟨_, rfl⟩
           rw [← hw7]
           have g7 : Grows w6 w7 := ⟨nq, osq, hw7⟩
           clear hw7
           have g7 := HG6.out.trans g7
           go_wp2_with fail
           go_ret
           exact ⟨by simp, HBZ.out.trans (g7.below.mono HBZ.out.size)⟩
         | true =>
           rw [hM, show errB true = 0 from rfl] at kC
           refine wp_region_quiet_grown (by assumption) (by kernel_rfl) ?_
           repeat (go_big_quiet_step (first | (go_at_call 14; with_reducible refine Calls.grown_of (kS _ _)) | (go_at_call 10; with_reducible refine Calls.grown_of (kC _ _)) | (go_at_call 15; with_reducible refine Calls.grown_of (kH _ _)) | (go_at_call 15; with_reducible refine Calls.grown_of (kI _ _))))
           refine wpQuiet_nil ?_
           intro _ hw'
           obtain ⟨⟨nq, osq⟩, hw''⟩ := hw'
           subst hw''
           obtain ⟨w7, hw7⟩ : ∃ v, v = grow (w6.drewN nq) osq := ⟨_, rfl⟩
           rw [← hw7]
           have g7 : Grows w6 w7 := ⟨nq, osq, hw7⟩
           clear hw7
           have g7 := HG6.out.trans g7
           go_wp2_with fail
           go_ret
           exact ⟨by simp, HBZ.out.trans (g7.below.mono HBZ.out.size)⟩)
end Go.Proofs.Ytlfkhinmncbkcaa
