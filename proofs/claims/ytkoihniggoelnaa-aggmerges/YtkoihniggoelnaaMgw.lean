/- The walk of AggMerges. -/
import Derived.Test.YtkoihniggoelnaaTrn
import Derived.Test.YtkoihniggoelnaaROf
namespace Go.Proofs.Ytkoihniggoelnaa
open Go.RowKit Go.Sort

theorem zmax (m : Nat) (h : m ≤ 2000) : m ≤ maxLen := by unfold maxLen; omega
theorem zby (m : Nat) (h : m ≤ 2000) : (m + m / 4 + 192) * 64 ≤ 281474976710656 := by omega
theorem z0x {a : Nat} (h : a ≤ 40) : 0 + a ≤ 2000 := by omega
theorem z0xy {a b : Nat} (h : a ≤ 40) (k : b ≤ 40) : 0 + a + b ≤ 2000 := by omega
set_option maxRecDepth 100000 in
set_option maxHeartbeats 8000000 in
theorem merges_walk (w : World) (k c : Int) (v1 : Value) (l1 : List En) (h1 : RdsM w v1 l1) (v2 : Value) (l2 : List En) (h2 : RdsM w v2 l2) (hk : In64 k) (hc : In64 c) :
    Calls Try.prog 5 #[.agg #[.int .i64 k, .int .i64 c], v1, v2] w fun e w' => e = .returned (.bool true) ∧ Below w.heap.size w w' := by
  obtain ⟨o1, n1, p1, rfl⟩ := h1.sl
  obtain ⟨o2, n2, p2, rfl⟩ := h2.sl
  obtain ⟨W, hW⟩ : ∃ W, W = w.alloc (.cells #[.int .i64 k, .int .i64 c] 26) := ⟨_, rfl⟩
  have gW : Below w.heap.size w W := by rw [hW]; exact (Grows.alloc _ _).below
  have ha0 : W.cell? ⟨w.heap.size, 0, none⟩ = some (.int .i64 k) ∧ W.cell? ⟨w.heap.size, 1, none⟩ = some (.int .i64 c) := by rw [hW]; exact ⟨al_new _ _ _ rfl rfl, al_new _ _ _ rfl rfl⟩
  have kA := awake_any W
  have mixed : Try.prog.follows .mixedOrders = true := by kernel_rfl
  rw [hW] at kA
  have HW : Hid _ := hW
  have HG : Hid _ := And.intro gW (And.intro ha0 (And.intro (h1.below gW) (h2.below gW)))
  clear h1 h2 hW gW ha0
  go_enter Try.func5, Try.ntmps5
  go_wp2_with fail
  refine kA.mono ?_
  rintro e U ⟨rfl, bU⟩
  rw [← HW.out] at bU
  obtain ⟨gW, ha0, r1, r2⟩ := HG.out
  have c0 := cell_up bU ha0.1
  have c1 := cell_up bU ha0.2
  have kR := right_any U k c _ l1 (r1.below bU) hk hc
  have HU : Hid _ := And.intro (gW.trans (bU.mono gW.size)) (And.intro (r2.below bU) (And.intro c0 c1))
  clear kA bU gW ha0 r1 r2 HG HW
  go_wp2_with fail
  refine kR.mono ?_
  rintro e X ⟨k', c', vx, x, rfl, hkc, rx, fx, lx, bX⟩
  obtain ⟨xa, xl, xc, rfl⟩ := rx.sl
  obtain ⟨b0, r2, c0, c1⟩ := HU.out
  obtain ⟨Y, hY⟩ : ∃ Y, Y = (X.alloc (.cells #[.int .i64 2, .int .i64 2] 23)).alloc (.cells #[.int .i64 k', .int .i64 c'] 26) := ⟨_, rfl⟩
  have gY : Below X.heap.size X Y := by rw [hY]; exact ((Grows.alloc _ _).trans (Grows.alloc _ _)).below
  have hb : Y.cell? ⟨X.heap.size + 1, 0, none⟩ = some (.int .i64 k') ∧ Y.cell? ⟨X.heap.size + 1, 1, none⟩ = some (.int .i64 c') := by
    rw [hY]; exact ⟨al_new _ _ _ (by simp) rfl, al_new _ _ _ (by simp) rfl⟩
  have bUY : Below U.heap.size U Y := bX.trans (gY.mono bX.size)
  have tx := fe_tot fx lx
  have dx : ∀ e ∈ x, e.f.ds.length = 2 ∧ e.f.ms.length = 2 := fun e he => ⟨(fx e he).ld, (fx e he).lm⟩
  have ax := fe_aok fx
  have HY : Hid _ := And.intro hY (And.intro (b0.trans (bUY.mono b0.size)) (And.intro (rx.below gY) (And.intro ax (And.intro tx (And.intro lx (And.intro hb (And.intro (cell_up bUY c0) (cell_up bUY c1))))))))
  have kR2 := right_any Y k c _ l2 (r2.below bUY) hk hc
  rw [hY] at kR2
  have d0 := cell_up bUY c0
  have d1 := cell_up bUY c1
  rw [hY] at d0 d1
  clear kR c0 c1 b0 r2 bX gY hb hY tx ax fx lx rx bUY HU
  go_wp2_with fail
  refine kR2.mono ?_
  rintro e X2 ⟨k2, c2, vy, y, rfl, -, ry, fy, ly, bX2⟩
  obtain ⟨ya, yl, yc, rfl⟩ := ry.sl
  obtain ⟨hY, b0, rx, ax, tx, lx, hb, c0, c1⟩ := HY.out
  rw [← hY] at bX2
  obtain ⟨Y2, hY2⟩ : ∃ Y2, Y2 = (X2.alloc (.cells #[.int .i64 2, .int .i64 2] 23)).alloc (.cells #[.int .i64 k2, .int .i64 c2] 26) := ⟨_, rfl⟩
  have gY : Below X2.heap.size X2 Y2 := by rw [hY2]; exact ((Grows.alloc _ _).trans (Grows.alloc _ _)).below
  have bY : Below Y.heap.size Y Y2 := bX2.trans (gY.mono bX2.size)
  have ty := fe_tot fy ly
  have dy : ∀ e ∈ y, e.f.ds.length = 2 ∧ e.f.ms.length = 2 := fun e he => ⟨(fy e he).ld, (fy e he).lm⟩
  have ay := fe_aok fy
  obtain ⟨cc, rfl⟩ : ∃ cc : Nat, c' = (cc : Int) := ⟨c'.toNat, by omega⟩
  have bW2 := b0.trans (bY.mono b0.size)
  have rx2 := rx.below bY
  have ry2 := ry.below gY
  have hb2 := And.intro (cell_up bY hb.1) (cell_up bY hb.2)
  obtain ⟨V, hV⟩ : ∃ V, V = Y2 := ⟨_, rfl⟩
  have gx := of_gd (k := k') (c := (cc : Int)) ax (by omega)
  have gy := of_gd (k := k') (c := (cc : Int)) ay (by omega)
  have nx := of_len k' cc x ax (by omega)
  have ny := of_len k' cc y ay (by omega)
  have HO : Hid ((∀ X', Below V.heap.size V X' → Calls Try.prog 16 #[.agg #[.int .i64 k', .int .i64 (cc : Int)], .slice xa xl xc] X' (Gives (ofP k' cc x) X')) ∧ (∀ X', Below V.heap.size V X' → Calls Try.prog 16 #[.agg #[.int .i64 k', .int .i64 (cc : Int)], .slice ya yl yc] X' (Gives (ofP k' cc y) X')) ∧
      ∀ (X' : World) (s1 s2 : Pt), Below V.heap.size V X' → s1.Ok X' → s2.Ok X' → s1.p0 = ofP k' cc x → s2.p0 = ofP k' cc y → Calls Try.prog 21 #[.agg #[.int .i64 k', .int .i64 (cc : Int)], .agg #[.int .u64 s1.n, .int .i64 s1.v, s1.tv], .agg #[.int .u64 s2.n, .int .i64 s2.v, s2.tv]] X' (Gives (mrgP k' (ofP k' cc x) (ofP k' cc y)) X')) := by
    rw [hV]
    refine ⟨fun X' b => of_any X' k' cc _ x (rx2.below b) ax (by omega) (by omega), fun X' b => of_any X' k' cc _ y (ry2.below b) ay (by omega) (by omega), fun X' s1 s2 b o1 o2 e1 e2 => ?_⟩
    rw [← e1, ← e2]
    exact merge_gd X' k' cc s1 s2 o1 o2 (by rw [e1]; exact gx) (by rw [e2]; exact gy) (by rw [e1]; omega) (by rw [e2]; omega)
  have hJ : (x ++ y).foldl (rstep k' (cc : Int)) U0 = mrgP k' (ofP k' cc x) (ofP k' cc y) := by
    rw [rfold_same k' cc (ax.append ay) (by rw [tot_append]; omega)]
    exact of_append ax ay (by omega)
  have hb : V.cell? ⟨X.heap.size + 1, 0, none⟩ = some (.int .i64 k') ∧ V.cell? ⟨X.heap.size + 1, 1, none⟩ = some (.int .i64 (cc : Int)) := by rw [hV]; exact hb2
  have HS : Hid (RdsM V (.slice xa xl xc) x ∧ RdsM V (.slice ya yl yc) y ∧ (∀ e ∈ x ++ y, e.f.ds.length = 2 ∧ e.f.ms.length = 2) ∧ AOk (x ++ y) ∧ tot (x ++ y) < 18446744073709551616 ∧ x.length ≤ 40 ∧ y.length ≤ 40 ∧ (1 ≤ k' ∧ k' ≤ 5) ∧ cc ≤ 1 ∧ (x ++ y).foldl (rstep k' (cc : Int)) U0 = mrgP k' (ofP k' cc x) (ofP k' cc y) ∧ Below w.heap.size w V) := by
    rw [hV]
    exact ⟨rx2, ry2, fun e he => (List.mem_append.1 he).elim (dx e) (dy e), ax.append ay, by rw [tot_append]; omega, lx, ly, ⟨hkc.1, hkc.2.1⟩, by omega, hJ, bW2⟩
  have HV : Hid (V = (X2.alloc (.cells #[.int .i64 2, .int .i64 2] 23)).alloc (.cells #[.int .i64 k2, .int .i64 c2] 26)) := by show _ = _; rw [hV, hY2]
  clear kR2 d0 d1 c0 c1 b0 bX2 gY hY hY2 tx ax lx rx ry fy ly ty ay bY HY dy bW2 rx2 ry2 hb2 hV gx gy nx ny hJ hkc
  go_wp2_with fail
  rw [← HV.out]
  go_cut [14] (fun t wA => ∃ B, t = .pointer (some ⟨B, 0, none⟩) ∧ Hid (∃ r : Pt, Box3 wA B (.int .u64 r.n) (.int .i64 r.v) r.tv ∧ r.Ok wA ∧ r.p0 = mrgP k' (ofP k' cc x) (ofP k' cc y) ∧ Below V.heap.size V wA))
  case first =>
    refine wp_region_invF (β := Value × Value × Value × Value × Value × Value × Value × Value × Value) (fun a0 xq => (((((((((a0.put (some 33) (xq.1)).put (some 34) (xq.2.1)).put (some 35) (xq.2.2.1)).put (some 36) (xq.2.2.2.1)).put (some 37) (xq.2.2.2.2.1)).put (some 38) (xq.2.2.2.2.2.1)).put (some 39) (xq.2.2.2.2.2.2.1)).put (some 40) (xq.2.2.2.2.2.2.2.1)).put (some 14) (xq.2.2.2.2.2.2.2.2))) ?fr33 (fun xq d w' => ((d 9 = false ∧ Below V.heap.size V w' ∧ (d 0 = true → Evr w' (fun _ => (xq.1) = .agg #[.int .i64 k', .int .i64 (cc : Int)])) ∧ (d 1 = true → Evr w' (fun _ => (xq.2.1) = .agg #[.int .i64 k', .int .i64 (cc : Int)])) ∧ (d 2 = true → Evr w' (fun _ => (xq.2.2.1) = .slice xa xl xc)) ∧ (d 3 = true → Evr w' (fun X => ∃ r : Pt, (xq.2.2.2.1) = .agg #[.int .u64 r.n, .int .i64 r.v, r.tv] ∧ r.p0 = ofP k' cc x ∧ r.Ok X)) ∧ (d 4 = true → Evr w' (fun _ => (xq.2.2.2.2.1) = .agg #[.int .i64 k', .int .i64 (cc : Int)])) ∧ (d 5 = true → Evr w' (fun _ => (xq.2.2.2.2.2.1) = .slice ya yl yc)) ∧ (d 6 = true → Evr w' (fun X => ∃ r : Pt, (xq.2.2.2.2.2.2.1) = .agg #[.int .u64 r.n, .int .i64 r.v, r.tv] ∧ r.p0 = ofP k' cc y ∧ r.Ok X)) ∧ (d 7 = true → Evr w' (fun X => ∃ r : Pt, (xq.2.2.2.2.2.2.2.1) = .agg #[.int .u64 r.n, .int .i64 r.v, r.tv] ∧ r.p0 = mrgP k' (ofP k' cc x) (ofP k' cc y) ∧ r.Ok X)) ∧ (d 8 = true → Evr w' (fun X => ∃ B, (xq.2.2.2.2.2.2.2.2) = .pointer (some ⟨B, 0, none⟩) ∧ V.heap.size ≤ B ∧ Box3 X B (.int .u64 0) (.int .i64 0) (.slice none 0 0))) ∧ (d 7 = true → d 8 = true → Evr w' (fun X => ∃ (r : Pt) (B : Nat), (xq.2.2.2.2.2.2.2.1) = .agg #[.int .u64 r.n, .int .i64 r.v, r.tv] ∧ (xq.2.2.2.2.2.2.2.2) = .pointer (some ⟨B, 0, none⟩) ∧ r.p0 = mrgP k' (ofP k' cc x) (ofP k' cc y) ∧ ∀ u v z, r.Ok (put3 X B u v z)))) ∨ ((∀ j, j < 10 → d j = true) ∧ ∃ (r : Pt) (B : Nat), (xq.2.2.2.2.2.2.2.2) = .pointer (some ⟨B, 0, none⟩) ∧ Box3 w' B (.int .u64 r.n) (.int .i64 r.v) r.tv ∧ r.Ok w' ∧ r.p0 = mrgP k' (ofP k' cc x) (ofP k' cc y) ∧ V.heap.size ≤ B ∧ Below V.heap.size V w'))) ?lay33 mixed (by kernel_rfl) ?h033 ?hs33 ?he33
    case lay33 =>
      intro xq
      simp only [Act.put, List.setIfInBounds_toArray, List.set_cons_zero, List.set_cons_succ]
      rfl
    case h033 => exact ⟨(undef, undef, undef, undef, undef, undef, undef, undef, undef), rfl, .inl ⟨rfl, below_dN (Below.refl _ _) 1, (fun h => by cases h), (fun h => by cases h), (fun h => by cases h), (fun h => by cases h), (fun h => by cases h), (fun h => by cases h), (fun h => by cases h), (fun h => by cases h), (fun h => by cases h), (fun h => by cases h)⟩⟩
    case hs33 =>
      refine ⟨?_, ?_, ?_, ?_, ?_, ?_, ?_, ?_, ?_, ?_, trivial⟩
      · rintro d ⟨x33, x34, x35, x36, x37, x38, x39, x40, x14⟩ w' hI hd hdp K hK
        dsimp only at hI
        rcases hI with ⟨hl, hB, f0, f1, f2, f3, f4, f5, f6, f7, f8, f9⟩ | ⟨hall, -⟩
        case inr => exact absurd (hall 0 (by decide)) (by rw [hd]; decide)
        have c0 := cell_up hB hb.1
        have c1 := cell_up hB hb.2
        have HF : Hid _ := (And.intro hl (And.intro hB (And.intro f0 (And.intro f1 (And.intro f2 (And.intro f3 (And.intro f4 (And.intro f5 (And.intro f6 (And.intro f7 (And.intro f8 f9)))))))))))
        clear f0 f1 f2 f3 f4 f5 f6 f7 f8 f9 hB hdp hl hd
        refine Opn.mk ?_
        dsimp only
        go_simp
        obtain ⟨hl, hB, f0, f1, f2, f3, f4, f5, f6, f7, f8, f9⟩ := HF.out
        exact hK.out (.agg #[.int .i64 k', .int .i64 (cc : Int)], x34, x35, x36, x37, x38, x39, x40, x14) _ (.inl ⟨by rw [upd_no (by decide)]; exact hl, hB.trans (Below.mono (Below.refl w'.heap.size w') hB.size), (fun _ => fun _ _ => rfl), (fun h1 => by first | exact (f1 (upd_ne h1 (by decide))).up (Below.refl w'.heap.size w') | exact fun _ _ => rfl), (fun h2 => by first | exact (f2 (upd_ne h2 (by decide))).up (Below.refl w'.heap.size w') | exact fun _ _ => rfl), (fun h3 => by first | exact (f3 (upd_ne h3 (by decide))).up (Below.refl w'.heap.size w') | exact fun _ _ => rfl), (fun h4 => by first | exact (f4 (upd_ne h4 (by decide))).up (Below.refl w'.heap.size w') | exact fun _ _ => rfl), (fun h5 => by first | exact (f5 (upd_ne h5 (by decide))).up (Below.refl w'.heap.size w') | exact fun _ _ => rfl), (fun h6 => by first | exact (f6 (upd_ne h6 (by decide))).up (Below.refl w'.heap.size w') | exact fun _ _ => rfl), (fun h7 => by first | exact (f7 (upd_ne h7 (by decide))).up (Below.refl w'.heap.size w') | exact fun _ _ => rfl), (fun h8 => by first | exact (f8 (upd_ne h8 (by decide))).up (Below.refl w'.heap.size w') | exact fun _ _ => rfl), (fun h7 h8 => by first | exact (f9 (upd_ne h7 (by decide)) (upd_ne h8 (by decide))).up (Below.refl w'.heap.size w') | exact fun _ _ => rfl)⟩)
      · rintro d ⟨x33, x34, x35, x36, x37, x38, x39, x40, x14⟩ w' hI hd hdp K hK
        dsimp only at hI
        rcases hI with ⟨hl, hB, f0, f1, f2, f3, f4, f5, f6, f7, f8, f9⟩ | ⟨hall, -⟩
        case inr => exact absurd (hall 1 (by decide)) (by rw [hd]; decide)
        have c0 := cell_up hB hb.1
        have c1 := cell_up hB hb.2
        have HF : Hid _ := (And.intro hl (And.intro hB (And.intro f0 (And.intro f1 (And.intro f2 (And.intro f3 (And.intro f4 (And.intro f5 (And.intro f6 (And.intro f7 (And.intro f8 f9)))))))))))
        clear f0 f1 f2 f3 f4 f5 f6 f7 f8 f9 hB hdp hl hd
        refine Opn.mk ?_
        dsimp only
        go_simp
        obtain ⟨hl, hB, f0, f1, f2, f3, f4, f5, f6, f7, f8, f9⟩ := HF.out
        exact hK.out (x33, .agg #[.int .i64 k', .int .i64 (cc : Int)], x35, x36, x37, x38, x39, x40, x14) _ (.inl ⟨by rw [upd_no (by decide)]; exact hl, hB.trans (Below.mono (Below.refl w'.heap.size w') hB.size), (fun h0 => by first | exact (f0 (upd_ne h0 (by decide))).up (Below.refl w'.heap.size w') | exact fun _ _ => rfl), (fun _ => fun _ _ => rfl), (fun h2 => by first | exact (f2 (upd_ne h2 (by decide))).up (Below.refl w'.heap.size w') | exact fun _ _ => rfl), (fun h3 => by first | exact (f3 (upd_ne h3 (by decide))).up (Below.refl w'.heap.size w') | exact fun _ _ => rfl), (fun h4 => by first | exact (f4 (upd_ne h4 (by decide))).up (Below.refl w'.heap.size w') | exact fun _ _ => rfl), (fun h5 => by first | exact (f5 (upd_ne h5 (by decide))).up (Below.refl w'.heap.size w') | exact fun _ _ => rfl), (fun h6 => by first | exact (f6 (upd_ne h6 (by decide))).up (Below.refl w'.heap.size w') | exact fun _ _ => rfl), (fun h7 => by first | exact (f7 (upd_ne h7 (by decide))).up (Below.refl w'.heap.size w') | exact fun _ _ => rfl), (fun h8 => by first | exact (f8 (upd_ne h8 (by decide))).up (Below.refl w'.heap.size w') | exact fun _ _ => rfl), (fun h7 h8 => by first | exact (f9 (upd_ne h7 (by decide)) (upd_ne h8 (by decide))).up (Below.refl w'.heap.size w') | exact fun _ _ => rfl)⟩)
      · rintro d ⟨x33, x34, x35, x36, x37, x38, x39, x40, x14⟩ w' hI hd hdp K hK
        dsimp only at hI
        rcases hI with ⟨hl, hB, f0, f1, f2, f3, f4, f5, f6, f7, f8, f9⟩ | ⟨hall, -⟩
        case inr => exact absurd (hall 2 (by decide)) (by rw [hd]; decide)
        skip
        have HF : Hid _ := (And.intro hl (And.intro hB (And.intro f0 (And.intro f1 (And.intro f2 (And.intro f3 (And.intro f4 (And.intro f5 (And.intro f6 (And.intro f7 (And.intro f8 f9)))))))))))
        clear f0 f1 f2 f3 f4 f5 f6 f7 f8 f9 hB hdp hl hd
        refine Opn.mk ?_
        dsimp only
        go_simp
        obtain ⟨hl, hB, f0, f1, f2, f3, f4, f5, f6, f7, f8, f9⟩ := HF.out
        exact hK.out (x33, x34, .slice xa xl xc, x36, x37, x38, x39, x40, x14) _ (.inl ⟨by rw [upd_no (by decide)]; exact hl, hB.trans (Below.mono (Below.refl w'.heap.size w') hB.size), (fun h0 => by first | exact (f0 (upd_ne h0 (by decide))).up (Below.refl w'.heap.size w') | exact fun _ _ => rfl), (fun h1 => by first | exact (f1 (upd_ne h1 (by decide))).up (Below.refl w'.heap.size w') | exact fun _ _ => rfl), (fun _ => fun _ _ => rfl), (fun h3 => by first | exact (f3 (upd_ne h3 (by decide))).up (Below.refl w'.heap.size w') | exact fun _ _ => rfl), (fun h4 => by first | exact (f4 (upd_ne h4 (by decide))).up (Below.refl w'.heap.size w') | exact fun _ _ => rfl), (fun h5 => by first | exact (f5 (upd_ne h5 (by decide))).up (Below.refl w'.heap.size w') | exact fun _ _ => rfl), (fun h6 => by first | exact (f6 (upd_ne h6 (by decide))).up (Below.refl w'.heap.size w') | exact fun _ _ => rfl), (fun h7 => by first | exact (f7 (upd_ne h7 (by decide))).up (Below.refl w'.heap.size w') | exact fun _ _ => rfl), (fun h8 => by first | exact (f8 (upd_ne h8 (by decide))).up (Below.refl w'.heap.size w') | exact fun _ _ => rfl), (fun h7 h8 => by first | exact (f9 (upd_ne h7 (by decide)) (upd_ne h8 (by decide))).up (Below.refl w'.heap.size w') | exact fun _ _ => rfl)⟩)
      · rintro d ⟨x33, x34, x35, x36, x37, x38, x39, x40, x14⟩ w' hI hd hdp K hK
        dsimp only at hI
        rcases hI with ⟨hl, hB, f0, f1, f2, f3, f4, f5, f6, f7, f8, f9⟩ | ⟨hall, -⟩
        case inr => exact absurd (hall 3 (by decide)) (by rw [hd]; decide)
        obtain rfl := (f1 (hdp 1 (by decide +kernel))).now
        obtain rfl := (f2 (hdp 2 (by decide +kernel))).now
        have kk := HO.out.1 w' hB
        try simp only at kk
        unfold Gives at kk
        have HF : Hid _ := (And.intro hl (And.intro hB (And.intro f0 (And.intro f1 (And.intro f2 (And.intro f3 (And.intro f4 (And.intro f5 (And.intro f6 (And.intro f7 (And.intro f8 f9)))))))))))
        clear f0 f1 f2 f3 f4 f5 f6 f7 f8 f9 hB hdp hl hd
        refine Opn.mk ?_
        dsimp only
        go_simp
        go_wp2_with (first | (go_at_call 16; with_reducible refine kk.mono ?_; rintro e5 w5 ⟨s5, rfl, ok5, new5, hr5, b5⟩))
        obtain ⟨hl, hB, f0, f1, f2, f3, f4, f5, f6, f7, f8, f9⟩ := HF.out
        exact hK.out (x33, .agg #[.int .i64 k', .int .i64 (cc : Int)], .slice xa xl xc, .agg #[.int .u64 s5.n, .int .i64 s5.v, s5.tv], x37, x38, x39, x40, x14) _ (.inl ⟨by rw [upd_no (by decide)]; exact hl, hB.trans (Below.mono (b5) hB.size), (fun h0 => by first | exact (f0 (upd_ne h0 (by decide))).up (b5) | exact fun _ _ => rfl), (fun h1 => by first | exact (f1 (upd_ne h1 (by decide))).up (b5) | exact fun _ _ => rfl), (fun h2 => by first | exact (f2 (upd_ne h2 (by decide))).up (b5) | exact fun _ _ => rfl), (fun _ => fun X bX => ⟨s5, rfl, hr5, ok5.up bX⟩), (fun h4 => by first | exact (f4 (upd_ne h4 (by decide))).up (b5) | exact fun _ _ => rfl), (fun h5 => by first | exact (f5 (upd_ne h5 (by decide))).up (b5) | exact fun _ _ => rfl), (fun h6 => by first | exact (f6 (upd_ne h6 (by decide))).up (b5) | exact fun _ _ => rfl), (fun h7 => by first | exact (f7 (upd_ne h7 (by decide))).up (b5) | exact fun _ _ => rfl), (fun h8 => by first | exact (f8 (upd_ne h8 (by decide))).up (b5) | exact fun _ _ => rfl), (fun h7 h8 => by first | exact (f9 (upd_ne h7 (by decide)) (upd_ne h8 (by decide))).up (b5) | exact fun _ _ => rfl)⟩)
      · rintro d ⟨x33, x34, x35, x36, x37, x38, x39, x40, x14⟩ w' hI hd hdp K hK
        dsimp only at hI
        rcases hI with ⟨hl, hB, f0, f1, f2, f3, f4, f5, f6, f7, f8, f9⟩ | ⟨hall, -⟩
        case inr => exact absurd (hall 4 (by decide)) (by rw [hd]; decide)
        have c0 := cell_up hB hb.1
        have c1 := cell_up hB hb.2
        have HF : Hid _ := (And.intro hl (And.intro hB (And.intro f0 (And.intro f1 (And.intro f2 (And.intro f3 (And.intro f4 (And.intro f5 (And.intro f6 (And.intro f7 (And.intro f8 f9)))))))))))
        clear f0 f1 f2 f3 f4 f5 f6 f7 f8 f9 hB hdp hl hd
        refine Opn.mk ?_
        dsimp only
        go_simp
        obtain ⟨hl, hB, f0, f1, f2, f3, f4, f5, f6, f7, f8, f9⟩ := HF.out
        exact hK.out (x33, x34, x35, x36, .agg #[.int .i64 k', .int .i64 (cc : Int)], x38, x39, x40, x14) _ (.inl ⟨by rw [upd_no (by decide)]; exact hl, hB.trans (Below.mono (Below.refl w'.heap.size w') hB.size), (fun h0 => by first | exact (f0 (upd_ne h0 (by decide))).up (Below.refl w'.heap.size w') | exact fun _ _ => rfl), (fun h1 => by first | exact (f1 (upd_ne h1 (by decide))).up (Below.refl w'.heap.size w') | exact fun _ _ => rfl), (fun h2 => by first | exact (f2 (upd_ne h2 (by decide))).up (Below.refl w'.heap.size w') | exact fun _ _ => rfl), (fun h3 => by first | exact (f3 (upd_ne h3 (by decide))).up (Below.refl w'.heap.size w') | exact fun _ _ => rfl), (fun _ => fun _ _ => rfl), (fun h5 => by first | exact (f5 (upd_ne h5 (by decide))).up (Below.refl w'.heap.size w') | exact fun _ _ => rfl), (fun h6 => by first | exact (f6 (upd_ne h6 (by decide))).up (Below.refl w'.heap.size w') | exact fun _ _ => rfl), (fun h7 => by first | exact (f7 (upd_ne h7 (by decide))).up (Below.refl w'.heap.size w') | exact fun _ _ => rfl), (fun h8 => by first | exact (f8 (upd_ne h8 (by decide))).up (Below.refl w'.heap.size w') | exact fun _ _ => rfl), (fun h7 h8 => by first | exact (f9 (upd_ne h7 (by decide)) (upd_ne h8 (by decide))).up (Below.refl w'.heap.size w') | exact fun _ _ => rfl)⟩)
      · rintro d ⟨x33, x34, x35, x36, x37, x38, x39, x40, x14⟩ w' hI hd hdp K hK
        dsimp only at hI
        rcases hI with ⟨hl, hB, f0, f1, f2, f3, f4, f5, f6, f7, f8, f9⟩ | ⟨hall, -⟩
        case inr => exact absurd (hall 5 (by decide)) (by rw [hd]; decide)
        skip
        have HF : Hid _ := (And.intro hl (And.intro hB (And.intro f0 (And.intro f1 (And.intro f2 (And.intro f3 (And.intro f4 (And.intro f5 (And.intro f6 (And.intro f7 (And.intro f8 f9)))))))))))
        clear f0 f1 f2 f3 f4 f5 f6 f7 f8 f9 hB hdp hl hd
        refine Opn.mk ?_
        dsimp only
        go_simp
        obtain ⟨hl, hB, f0, f1, f2, f3, f4, f5, f6, f7, f8, f9⟩ := HF.out
        exact hK.out (x33, x34, x35, x36, x37, .slice ya yl yc, x39, x40, x14) _ (.inl ⟨by rw [upd_no (by decide)]; exact hl, hB.trans (Below.mono (Below.refl w'.heap.size w') hB.size), (fun h0 => by first | exact (f0 (upd_ne h0 (by decide))).up (Below.refl w'.heap.size w') | exact fun _ _ => rfl), (fun h1 => by first | exact (f1 (upd_ne h1 (by decide))).up (Below.refl w'.heap.size w') | exact fun _ _ => rfl), (fun h2 => by first | exact (f2 (upd_ne h2 (by decide))).up (Below.refl w'.heap.size w') | exact fun _ _ => rfl), (fun h3 => by first | exact (f3 (upd_ne h3 (by decide))).up (Below.refl w'.heap.size w') | exact fun _ _ => rfl), (fun h4 => by first | exact (f4 (upd_ne h4 (by decide))).up (Below.refl w'.heap.size w') | exact fun _ _ => rfl), (fun _ => fun _ _ => rfl), (fun h6 => by first | exact (f6 (upd_ne h6 (by decide))).up (Below.refl w'.heap.size w') | exact fun _ _ => rfl), (fun h7 => by first | exact (f7 (upd_ne h7 (by decide))).up (Below.refl w'.heap.size w') | exact fun _ _ => rfl), (fun h8 => by first | exact (f8 (upd_ne h8 (by decide))).up (Below.refl w'.heap.size w') | exact fun _ _ => rfl), (fun h7 h8 => by first | exact (f9 (upd_ne h7 (by decide)) (upd_ne h8 (by decide))).up (Below.refl w'.heap.size w') | exact fun _ _ => rfl)⟩)
      · rintro d ⟨x33, x34, x35, x36, x37, x38, x39, x40, x14⟩ w' hI hd hdp K hK
        dsimp only at hI
        rcases hI with ⟨hl, hB, f0, f1, f2, f3, f4, f5, f6, f7, f8, f9⟩ | ⟨hall, -⟩
        case inr => exact absurd (hall 6 (by decide)) (by rw [hd]; decide)
        obtain rfl := (f4 (hdp 4 (by decide +kernel))).now
        obtain rfl := (f5 (hdp 5 (by decide +kernel))).now
        have kk := HO.out.2.1 w' hB
        try simp only at kk
        unfold Gives at kk
        have HF : Hid _ := (And.intro hl (And.intro hB (And.intro f0 (And.intro f1 (And.intro f2 (And.intro f3 (And.intro f4 (And.intro f5 (And.intro f6 (And.intro f7 (And.intro f8 f9)))))))))))
        clear f0 f1 f2 f3 f4 f5 f6 f7 f8 f9 hB hdp hl hd
        refine Opn.mk ?_
        dsimp only
        go_simp
        go_wp2_with (first | (go_at_call 16; with_reducible refine kk.mono ?_; rintro e5 w5 ⟨s5, rfl, ok5, new5, hr5, b5⟩))
        obtain ⟨hl, hB, f0, f1, f2, f3, f4, f5, f6, f7, f8, f9⟩ := HF.out
        exact hK.out (x33, x34, x35, x36, .agg #[.int .i64 k', .int .i64 (cc : Int)], .slice ya yl yc, .agg #[.int .u64 s5.n, .int .i64 s5.v, s5.tv], x40, x14) _ (.inl ⟨by rw [upd_no (by decide)]; exact hl, hB.trans (Below.mono (b5) hB.size), (fun h0 => by first | exact (f0 (upd_ne h0 (by decide))).up (b5) | exact fun _ _ => rfl), (fun h1 => by first | exact (f1 (upd_ne h1 (by decide))).up (b5) | exact fun _ _ => rfl), (fun h2 => by first | exact (f2 (upd_ne h2 (by decide))).up (b5) | exact fun _ _ => rfl), (fun h3 => by first | exact (f3 (upd_ne h3 (by decide))).up (b5) | exact fun _ _ => rfl), (fun h4 => by first | exact (f4 (upd_ne h4 (by decide))).up (b5) | exact fun _ _ => rfl), (fun h5 => by first | exact (f5 (upd_ne h5 (by decide))).up (b5) | exact fun _ _ => rfl), (fun _ => fun X bX => ⟨s5, rfl, hr5, ok5.up bX⟩), (fun h7 => by first | exact (f7 (upd_ne h7 (by decide))).up (b5) | exact fun _ _ => rfl), (fun h8 => by first | exact (f8 (upd_ne h8 (by decide))).up (b5) | exact fun _ _ => rfl), (fun h7 h8 => by first | exact (f9 (upd_ne h7 (by decide)) (upd_ne h8 (by decide))).up (b5) | exact fun _ _ => rfl)⟩)
      · rintro d ⟨x33, x34, x35, x36, x37, x38, x39, x40, x14⟩ w' hI hd hdp K hK
        dsimp only at hI
        rcases hI with ⟨hl, hB, f0, f1, f2, f3, f4, f5, f6, f7, f8, f9⟩ | ⟨hall, -⟩
        case inr => exact absurd (hall 7 (by decide)) (by rw [hd]; decide)
        obtain rfl := (f0 (hdp 0 (by decide +kernel))).now
        obtain ⟨s1, es1, hs1, os1⟩ := (f3 (hdp 3 (by decide +kernel))).now
        subst es1
        obtain ⟨s2, es2, hs2, os2⟩ := (f6 (hdp 6 (by decide +kernel))).now
        subst es2
        have kk := HO.out.2.2 w' s1 s2 hB os1 os2 hs1 hs2
        try simp only at kk
        unfold Gives at kk
        have HF : Hid _ := (And.intro hl (And.intro hB (And.intro f0 (And.intro f1 (And.intro f2 (And.intro f3 (And.intro f4 (And.intro f5 (And.intro f6 (And.intro f7 (And.intro f8 f9)))))))))))
        clear f0 f1 f2 f3 f4 f5 f6 f7 f8 f9 hB hdp hl hd
        refine Opn.mk ?_
        dsimp only
        go_simp
        go_wp2_with (first | (go_at_call 21; with_reducible refine kk.mono ?_; rintro e5 w5 ⟨s5, rfl, ok5, new5, hr5, b5⟩))
        obtain ⟨hl, hB, f0, f1, f2, f3, f4, f5, f6, f7, f8, f9⟩ := HF.out
        exact hK.out (.agg #[.int .i64 k', .int .i64 (cc : Int)], x34, x35, .agg #[.int .u64 s1.n, .int .i64 s1.v, s1.tv], x37, x38, .agg #[.int .u64 s2.n, .int .i64 s2.v, s2.tv], .agg #[.int .u64 s5.n, .int .i64 s5.v, s5.tv], x14) _ (.inl ⟨by rw [upd_no (by decide)]; exact hl, hB.trans (Below.mono (b5) hB.size), (fun h0 => by first | exact (f0 (upd_ne h0 (by decide))).up (b5) | exact fun _ _ => rfl), (fun h1 => by first | exact (f1 (upd_ne h1 (by decide))).up (b5) | exact fun _ _ => rfl), (fun h2 => by first | exact (f2 (upd_ne h2 (by decide))).up (b5) | exact fun _ _ => rfl), (fun h3 => by first | exact (f3 (upd_ne h3 (by decide))).up (b5) | exact fun _ _ => rfl), (fun h4 => by first | exact (f4 (upd_ne h4 (by decide))).up (b5) | exact fun _ _ => rfl), (fun h5 => by first | exact (f5 (upd_ne h5 (by decide))).up (b5) | exact fun _ _ => rfl), (fun h6 => by first | exact (f6 (upd_ne h6 (by decide))).up (b5) | exact fun _ _ => rfl), (fun _ => fun X bX => ⟨s5, rfl, hr5, ok5.up bX⟩), (fun h8 => by first | exact (f8 (upd_ne h8 (by decide))).up (b5) | exact fun _ _ => rfl), (fun _ h8 => fun X bX => by
                obtain ⟨B', e', l', bx'⟩ := (f8 (upd_ne h8 (by decide))).now
                exact ⟨s5, B', rfl, e', hr5, fun u v z => (ok5.up bX).put3 new5 bx'.lt u v z⟩)⟩)
      · rintro d ⟨x33, x34, x35, x36, x37, x38, x39, x40, x14⟩ w' hI hd hdp K hK
        dsimp only at hI
        rcases hI with ⟨hl, hB, f0, f1, f2, f3, f4, f5, f6, f7, f8, f9⟩ | ⟨hall, -⟩
        case inr => exact absurd (hall 8 (by decide)) (by rw [hd]; decide)
        skip
        have HF : Hid _ := (And.intro hl (And.intro hB (And.intro f0 (And.intro f1 (And.intro f2 (And.intro f3 (And.intro f4 (And.intro f5 (And.intro f6 (And.intro f7 (And.intro f8 f9)))))))))))
        clear f0 f1 f2 f3 f4 f5 f6 f7 f8 f9 hB hdp hl hd
        refine Opn.mk ?_
        dsimp only
        go_simp
        obtain ⟨hl, hB, f0, f1, f2, f3, f4, f5, f6, f7, f8, f9⟩ := HF.out
        exact hK.out (x33, x34, x35, x36, x37, x38, x39, x40, .pointer (some ⟨w'.heap.size, 0, none⟩)) _ (.inl ⟨by rw [upd_no (by decide)]; exact hl, hB.trans (Below.mono ((Grows.alloc _ _).below) hB.size), (fun h0 => by first | exact (f0 (upd_ne h0 (by decide))).up ((Grows.alloc _ _).below) | exact fun _ _ => rfl), (fun h1 => by first | exact (f1 (upd_ne h1 (by decide))).up ((Grows.alloc _ _).below) | exact fun _ _ => rfl), (fun h2 => by first | exact (f2 (upd_ne h2 (by decide))).up ((Grows.alloc _ _).below) | exact fun _ _ => rfl), (fun h3 => by first | exact (f3 (upd_ne h3 (by decide))).up ((Grows.alloc _ _).below) | exact fun _ _ => rfl), (fun h4 => by first | exact (f4 (upd_ne h4 (by decide))).up ((Grows.alloc _ _).below) | exact fun _ _ => rfl), (fun h5 => by first | exact (f5 (upd_ne h5 (by decide))).up ((Grows.alloc _ _).below) | exact fun _ _ => rfl), (fun h6 => by first | exact (f6 (upd_ne h6 (by decide))).up ((Grows.alloc _ _).below) | exact fun _ _ => rfl), (fun h7 => by first | exact (f7 (upd_ne h7 (by decide))).up ((Grows.alloc _ _).below) | exact fun _ _ => rfl), (fun _ => fun X bX => ⟨_, rfl, hB.size, (Box3.new _ _ _ _ _ _ rfl).up bX⟩), (fun h7 _ => fun X bX => by
                obtain ⟨r, e, hr, ok⟩ := (f7 (upd_ne h7 (by decide))).now
                exact ⟨r, _, e, rfl, hr, fun u v z => ok.up (below_put3 (((Grows.alloc _ _).below).trans (bX.mono (by simp))) (Nat.le_refl _) u v z)⟩)⟩)
      · rintro d ⟨x33, x34, x35, x36, x37, x38, x39, x40, x14⟩ w' hI hd hdp K hK
        dsimp only at hI
        rcases hI with ⟨hl, hB, f0, f1, f2, f3, f4, f5, f6, f7, f8, f9⟩ | ⟨hall, -⟩
        case inr => exact absurd (hall 9 (by decide)) (by rw [hd]; decide)
        obtain ⟨B, e2, hle, bx⟩ := (f8 (hdp 8 (by decide +kernel))).now
        obtain ⟨r, B', e11, e2', hr, okp⟩ := (f9 (hdp 7 (by decide +kernel)) (hdp 8 (by decide +kernel))).now
        have hall : ∀ j, j < 10 → upd d 9 j = true := fun j hj => by
          rcases (by omega : j = 0 ∨ j = 1 ∨ j = 2 ∨ j = 3 ∨ j = 4 ∨ j = 5 ∨ j = 6 ∨ j = 7 ∨ j = 8 ∨ j = 9) with rfl | rfl | rfl | rfl | rfl | rfl | rfl | rfl | rfl | rfl
          all_goals first | rfl | (rw [upd_no (by decide)]; exact hdp _ (by decide +kernel))
        subst e11 e2
        cases e2'
        have HP : Hid _ := bx.put (.int .u64 r.n) (.int .i64 r.v) r.tv
        have HOK : Hid _ := okp
        have HH : Hid _ := And.intro hall (And.intro hr hle)
        have hsl : ∃ a n c, r.tv = .slice a n c := (okp undef undef undef).rt.sl
        obtain ⟨rn, rv, rtv, rts⟩ := r
        obtain ⟨a7, n7, c7, hv7⟩ := hsl
        simp only at hv7
        subst hv7
        obtain ⟨y0, y1, y2, yf⟩ := bx
        clear hall hr hle okp
        have HF : Hid _ := (And.intro hl (And.intro hB (And.intro f0 (And.intro f1 (And.intro f2 (And.intro f3 (And.intro f4 (And.intro f5 (And.intro f6 (And.intro f7 (And.intro f8 f9)))))))))))
        clear f0 f1 f2 f3 f4 f5 f6 f7 f8 f9 hB hdp hl hd
        refine Opn.mk ?_
        dsimp only
        go_simp
        obtain ⟨hl, hB, f0, f1, f2, f3, f4, f5, f6, f7, f8, f9⟩ := HF.out
        obtain ⟨hall, hr, hle⟩ := HH.out
        exact hK.out (x33, x34, x35, x36, x37, x38, x39, .agg #[.int .u64 rn, .int .i64 rv, .slice a7 n7 c7], .pointer (some ⟨B, 0, none⟩)) _ (.inr ⟨hall, ⟨rn, rv, .slice a7 n7 c7, rts⟩, B, rfl, HP.out, HOK.out _ _ _, hr, hle, below_put3 hB hle _ _ _⟩)
    case he33 =>
      rintro d ⟨x33, x34, x35, x36, x37, x38, x39, x40, x14⟩ w' hall hI
      dsimp only at hI
      rcases hI with ⟨hl, -⟩ | ⟨-, r, B, rfl, bx, ok, hr, hle, bl⟩
      · exact absurd (hall 9 (by decide)) (by rw [hl]; decide)
      have HI : Hid (∃ r : Pt, Box3 w' B (.int .u64 r.n) (.int .i64 r.v) r.tv ∧ r.Ok w' ∧ r.p0 = mrgP k' (ofP k' cc x) (ofP k' cc y) ∧ Below V.heap.size V w') := ⟨r, bx, ok, hr, bl⟩
      clear bx ok hr hle bl hall
      dsimp only
      go_wp2_with fail
      go_meet
      case rel => exact ⟨B, rfl, HI⟩
  case rest =>
    rename World => wA
    obtain ⟨B14, rfl, HR⟩ := hcut
    obtain ⟨p, bxp, okp, hp0, bA⟩ := HR.out
    obtain ⟨rx, ry, h2, hok, ht, lx, ly, hk5, hcc, hJ, bV⟩ := HS.out
    obtain ⟨pn, pv, ptv, pts⟩ := p
    obtain ⟨pa, pl, pc, hv⟩ := okp.rt.sl
    simp only at hv
    subst hv
    simp only at bxp
    obtain ⟨i0, hi0, hy0, hy1, hy2⟩ := info_parts Try.info_many
    have rxA := rx.below bA
    have ryA := ry.below bA
    have exl := rxA.len.1
    have eyl := ryA.len.1
    have hxl : xl ≤ 40 := by rw [exl]; exact lx
    have hyl : yl ≤ 40 := by rw [eyl]; exact ly
    have onex : ∀ u ∈ ev x, u.oneCell' = true := fun u hu => by
      simp only [ev, List.mem_flatMap] at hu
      obtain ⟨e, he, hu⟩ := hu
      exact fc_one (rxA.ok e he) u (by simpa [ev] using hu)
    have oney : ∀ u ∈ ev y, u.oneCell' = true := fun u hu => by
      simp only [ev, List.mem_flatMap] at hu
      obtain ⟨e, he, hu⟩ := hu
      exact fc_one (ryA.ok e he) u (by simpa [ev] using hu)
    have R1 : RdsK 4 wA (.slice xa xl xc) xl (ev x) := by have := rxA.r; rwa [← exl] at this
    have hz1 : 0 + xl ≤ maxLen := zmax _ (z0x hxl)
    have hz2 : ((0 + xl) + (0 + xl) / 4 + 192) * 64 ≤ 281474976710656 := zby _ (z0x hxl)
    have hz3 : 0 + xl + yl ≤ maxLen := zmax _ (z0xy hxl hyl)
    have hz4 : ((0 + xl + yl) + (0 + xl + yl) / 4 + 192) * 64 ≤ 281474976710656 := zby _ (z0xy hxl hyl)
    have HR1 : Hid _ := R1
    have HON : Hid (wA.ownsRow wA.heap.size 49 4 (.slice none 0 0) 0 []) := World.ownsRow_nil _ _ _ _
    have HOX : Aside (∀ u ∈ ev x, u.oneCell' = true) := onex
    have HOY : Aside (∀ u ∈ ev y, u.oneCell' = true) := oney
    have HE : Hid (xl = x.length ∧ yl = y.length) := ⟨exl, eyl⟩
    have HPP : Hid _ := And.intro bxp (And.intro okp hp0)
    have HBA : Hid _ := bA
    clear R1 onex oney exl eyl rxA ryA rx ry h2 hok ht lx ly hk5 hcc hJ bV bxp okp hp0 bA HR
    go_upto_region 9 with (first
      | (at_builtin; refine wpList_appK rfl _ _ 36 rfl wA.heap.size 49 i0 (.agg #[.int .i64 0, .slice none 0 0, .slice none 0 0, .int .u64 0]) 4 64 Try.underlying36 hi0 hy0 hy1 hy2 rfl (by decide) _ _ _ rfl HON.out _ _ _ rfl HR1.out HOX.out hz1 hz2 (Nat.le_refl _) ?_; intro v7 w7 hown7 hgrow7 hnil7))
    have b7 : Below wA.heap.size wA w7 := (Below.refl _ _).grown hgrow7 (Nat.le_refl _) (fun j hj => by cases hj)
    obtain ⟨a7, n7, c7, hv7⟩ := own_sl hown7
    subst hv7
    have HO7 : Hid _ := hown7
    have R2 : RdsK 4 w7 (.slice ya yl yc) yl (ev y) := by
      have := ((HS.out.2.1.below HBA.out).below b7).r
      rwa [← HE.out.2] at this
    have HR2 : Hid _ := R2
    have HB7 : Hid _ := b7
    clear hown7 hgrow7 hnil7 R2 b7
    go_wp2_with (first
      | (at_builtin; refine wpList_appK rfl _ _ 36 rfl wA.heap.size 49 i0 (.agg #[.int .i64 0, .slice none 0 0, .slice none 0 0, .int .u64 0]) 4 64 Try.underlying36 hi0 hy0 hy1 hy2 rfl (by decide) _ _ _ rfl HO7.out _ _ _ rfl HR2.out HOY.out hz3 hz4 HB7.out.size ?_; intro v8 w8 hown8 hgrow8 hnil8))
    have b8 : Below wA.heap.size wA w8 := HB7.out.grown hgrow8 HB7.out.size (fun j hj => (World.ownsRow.lt HO7.out j hj).1)
    obtain ⟨ba, bl, bc, hv8⟩ := own_sl hown8
    subst hv8
    obtain ⟨rx, ry, h2, hok, ht, lx, ly, hk5, hcc, hJ, bV⟩ := HS.out
    have bA := HBA.out
    have bV8 : Below V.heap.size V w8 := bA.trans (b8.mono bA.size)
    have rb : RdsM w8 (.slice ba bl bc) (x ++ y) := by
      refine ⟨?_, fun e he => (List.mem_append.1 he).elim (fun h => (rx.below bV8).ok e h) (fun h => (ry.below bV8).ok e h)⟩
      have := RdsK.of_own hown8
      rw [List.nil_append, ← ev_app] at this
      rw [List.length_append, ← HE.out.1, ← HE.out.2, ← Nat.zero_add xl]
      exact this
    obtain ⟨Y9, hY9⟩ : ∃ Y9, Y9 = w8 := ⟨_, rfl⟩
    rw [← hY9] at rb b8 bV8 ⊢
    have kRf : ∀ X', Below Y9.heap.size Y9 X' → Calls Try.prog 17 #[.agg #[.int .i64 k', .int .i64 (cc : Int)], .slice ba bl bc] X' (Gives (mrgP k' (ofP k' cc x) (ofP k' cc y)) X') := fun X' b => by
      have := refof_any X' k' cc _ (x ++ y) (rb.below b) hcc hk5 h2 hok ht (by rw [List.length_append]; omega)
      rw [hJ] at this
      exact this
    have bxp := HPP.out.1.up b8
    have okp := HPP.out.2.1.up b8
    have hp0 := HPP.out.2.2
    have hb := And.intro (cell_up bV8 hb.1) (cell_up bV8 hb.2)
    have HBW : Hid (Below w.heap.size w Y9) := bV.trans (bV8.mono bV.size)
    clear rx ry h2 hok ht lx ly hk5 hcc hJ bV bA bV8 rb b8 hown8 hgrow8 hnil8 HPP HBA HO7 HR2 HB7 HON HR1 HOX HOY HE hY9 HS
    refine wp_region_invF (β := Value × Value × Value × Value × Value × Value) (fun a0 xq => ((((((a0.put (some 47) (xq.1)).put (some 48) (xq.2.1)).put (some 49) (xq.2.2.1)).put (some 50) (xq.2.2.2.1)).put (some 51) (xq.2.2.2.2.1)).put (some 6) (xq.2.2.2.2.2))) ?fr47 (fun xq d w' => Below Y9.heap.size Y9 w' ∧ (d 0 = true → Evr w' (fun _ => (xq.1) = .agg #[.int .u64 pn, .int .i64 pv, .slice pa pl pc])) ∧ (d 1 = true → Evr w' (fun _ => (xq.2.1) = .agg #[.int .i64 k', .int .i64 (cc : Int)])) ∧ (d 2 = true → Evr w' (fun _ => (xq.2.2.1) = .slice ba bl bc)) ∧ (d 3 = true → Evr w' (fun X => ∃ r : Pt, (xq.2.2.2.1) = .agg #[.int .u64 r.n, .int .i64 r.v, r.tv] ∧ r.p0 = mrgP k' (ofP k' cc x) (ofP k' cc y) ∧ r.Ok X)) ∧ (d 4 = true → Evr w' (fun _ => (xq.2.2.2.2.1) = .bool true)) ∧ (d 5 = true → Evr w' (fun _ => (xq.2.2.2.2.2) = .bool true))) ?lay47 mixed (by kernel_rfl) ?h047 ?hs47 ?he47
    case lay47 =>
      intro xq
      simp only [Act.put, List.setIfInBounds_toArray, List.set_cons_zero, List.set_cons_succ]
      rfl
    case h047 => exact ⟨(u47, u48, u49, u50, u51, .bool false), rfl, below_dN (Below.refl _ _) 1, (fun h => by cases h), (fun h => by cases h), (fun h => by cases h), (fun h => by cases h), (fun h => by cases h), (fun h => by cases h)⟩
    case hs47 =>
      refine ⟨?_, ?_, ?_, ?_, ?_, ?_, trivial⟩
      · rintro d ⟨x47, x48, x49, x50, x51, x6⟩ w' hI hd hdp K hK
        dsimp only at hI
        obtain ⟨hB, f0, f1, f2, f3, f4, f5⟩ := hI
        obtain ⟨c0, c1, c2, -⟩ := bxp.up hB
        have HF : Hid _ := (And.intro hd (And.intro hB (And.intro f0 (And.intro f1 (And.intro f2 (And.intro f3 (And.intro f4 f5)))))))
        clear f0 f1 f2 f3 f4 f5 hB hdp hd
        refine Opn.mk ?_
        dsimp only
        go_simp
        obtain ⟨hd, hB, f0, f1, f2, f3, f4, f5⟩ := HF.out
        exact hK.out (.agg #[.int .u64 pn, .int .i64 pv, .slice pa pl pc], x48, x49, x50, x51, x6) _ ⟨hB.trans (Below.mono (Below.refl w'.heap.size w') hB.size), (fun _ => fun _ _ => rfl), (fun h1 => by first | exact (f1 (upd_ne h1 (by decide))).up (Below.refl w'.heap.size w') | exact fun _ _ => rfl), (fun h2 => by first | exact (f2 (upd_ne h2 (by decide))).up (Below.refl w'.heap.size w') | exact fun _ _ => rfl), (fun h3 => by first | exact (f3 (upd_ne h3 (by decide))).up (Below.refl w'.heap.size w') | exact fun _ _ => rfl), (fun h4 => by first | exact (f4 (upd_ne h4 (by decide))).up (Below.refl w'.heap.size w') | exact fun _ _ => rfl), (fun h5 => by first | exact (f5 (upd_ne h5 (by decide))).up (Below.refl w'.heap.size w') | exact fun _ _ => rfl)⟩
      · rintro d ⟨x47, x48, x49, x50, x51, x6⟩ w' hI hd hdp K hK
        dsimp only at hI
        obtain ⟨hB, f0, f1, f2, f3, f4, f5⟩ := hI
        have c0 := cell_up hB hb.1
        have c1 := cell_up hB hb.2
        have HF : Hid _ := (And.intro hd (And.intro hB (And.intro f0 (And.intro f1 (And.intro f2 (And.intro f3 (And.intro f4 f5)))))))
        clear f0 f1 f2 f3 f4 f5 hB hdp hd
        refine Opn.mk ?_
        dsimp only
        go_simp
        obtain ⟨hd, hB, f0, f1, f2, f3, f4, f5⟩ := HF.out
        exact hK.out (x47, .agg #[.int .i64 k', .int .i64 (cc : Int)], x49, x50, x51, x6) _ ⟨hB.trans (Below.mono (Below.refl w'.heap.size w') hB.size), (fun h0 => by first | exact (f0 (upd_ne h0 (by decide))).up (Below.refl w'.heap.size w') | exact fun _ _ => rfl), (fun _ => fun _ _ => rfl), (fun h2 => by first | exact (f2 (upd_ne h2 (by decide))).up (Below.refl w'.heap.size w') | exact fun _ _ => rfl), (fun h3 => by first | exact (f3 (upd_ne h3 (by decide))).up (Below.refl w'.heap.size w') | exact fun _ _ => rfl), (fun h4 => by first | exact (f4 (upd_ne h4 (by decide))).up (Below.refl w'.heap.size w') | exact fun _ _ => rfl), (fun h5 => by first | exact (f5 (upd_ne h5 (by decide))).up (Below.refl w'.heap.size w') | exact fun _ _ => rfl)⟩
      · rintro d ⟨x47, x48, x49, x50, x51, x6⟩ w' hI hd hdp K hK
        dsimp only at hI
        obtain ⟨hB, f0, f1, f2, f3, f4, f5⟩ := hI
        skip
        have HF : Hid _ := (And.intro hd (And.intro hB (And.intro f0 (And.intro f1 (And.intro f2 (And.intro f3 (And.intro f4 f5)))))))
        clear f0 f1 f2 f3 f4 f5 hB hdp hd
        refine Opn.mk ?_
        dsimp only
        go_simp
        obtain ⟨hd, hB, f0, f1, f2, f3, f4, f5⟩ := HF.out
        exact hK.out (x47, x48, .slice ba bl bc, x50, x51, x6) _ ⟨hB.trans (Below.mono (Below.refl w'.heap.size w') hB.size), (fun h0 => by first | exact (f0 (upd_ne h0 (by decide))).up (Below.refl w'.heap.size w') | exact fun _ _ => rfl), (fun h1 => by first | exact (f1 (upd_ne h1 (by decide))).up (Below.refl w'.heap.size w') | exact fun _ _ => rfl), (fun _ => fun _ _ => rfl), (fun h3 => by first | exact (f3 (upd_ne h3 (by decide))).up (Below.refl w'.heap.size w') | exact fun _ _ => rfl), (fun h4 => by first | exact (f4 (upd_ne h4 (by decide))).up (Below.refl w'.heap.size w') | exact fun _ _ => rfl), (fun h5 => by first | exact (f5 (upd_ne h5 (by decide))).up (Below.refl w'.heap.size w') | exact fun _ _ => rfl)⟩
      · rintro d ⟨x47, x48, x49, x50, x51, x6⟩ w' hI hd hdp K hK
        dsimp only at hI
        obtain ⟨hB, f0, f1, f2, f3, f4, f5⟩ := hI
        obtain rfl := (f1 (hdp 1 (by decide +kernel))).now
        obtain rfl := (f2 (hdp 2 (by decide +kernel))).now
        have kk := kRf w' hB
        try simp only at kk
        unfold Gives at kk
        have HF : Hid _ := (And.intro hd (And.intro hB (And.intro f0 (And.intro f1 (And.intro f2 (And.intro f3 (And.intro f4 f5)))))))
        clear f0 f1 f2 f3 f4 f5 hB hdp hd
        refine Opn.mk ?_
        dsimp only
        go_simp
        go_wp2_with (first | (go_at_call 17; with_reducible refine kk.mono ?_; rintro e5 w5 ⟨s5, rfl, ok5, new5, hr5, b5⟩))
        obtain ⟨hd, hB, f0, f1, f2, f3, f4, f5⟩ := HF.out
        exact hK.out (x47, .agg #[.int .i64 k', .int .i64 (cc : Int)], .slice ba bl bc, .agg #[.int .u64 s5.n, .int .i64 s5.v, s5.tv], x51, x6) _ ⟨hB.trans (Below.mono (b5) hB.size), (fun h0 => by first | exact (f0 (upd_ne h0 (by decide))).up (b5) | exact fun _ _ => rfl), (fun h1 => by first | exact (f1 (upd_ne h1 (by decide))).up (b5) | exact fun _ _ => rfl), (fun h2 => by first | exact (f2 (upd_ne h2 (by decide))).up (b5) | exact fun _ _ => rfl), (fun _ => fun X bX => ⟨s5, rfl, hr5, ok5.up bX⟩), (fun h4 => by first | exact (f4 (upd_ne h4 (by decide))).up (b5) | exact fun _ _ => rfl), (fun h5 => by first | exact (f5 (upd_ne h5 (by decide))).up (b5) | exact fun _ _ => rfl)⟩
      · rintro d ⟨x47, x48, x49, x50, x51, x6⟩ w' hI hd hdp K hK
        dsimp only at hI
        obtain ⟨hB, f0, f1, f2, f3, f4, f5⟩ := hI
        obtain rfl := (f0 (hdp 0 (by decide +kernel))).now
        obtain ⟨s1, es1, hs1, os1⟩ := (f3 (hdp 3 (by decide +kernel))).now
        subst es1
        have kk := refsame_any w' ⟨pn, pv, .slice pa pl pc, pts⟩ s1 (okp.up hB) os1 (hp0.trans hs1.symm)
        try simp only at kk
        have HF : Hid _ := (And.intro hd (And.intro hB (And.intro f0 (And.intro f1 (And.intro f2 (And.intro f3 (And.intro f4 f5)))))))
        clear f0 f1 f2 f3 f4 f5 hB hdp hd
        refine Opn.mk ?_
        dsimp only
        go_simp
        go_wp2_with (first | (go_at_call 18; with_reducible refine kk.mono ?_; rintro e5 w5 ⟨rfl, g5⟩))
        obtain ⟨hd, hB, f0, f1, f2, f3, f4, f5⟩ := HF.out
        exact hK.out (.agg #[.int .u64 pn, .int .i64 pv, .slice pa pl pc], x48, x49, .agg #[.int .u64 s1.n, .int .i64 s1.v, s1.tv], .bool true, x6) _ ⟨hB.trans (Below.mono (Grows.below g5) hB.size), (fun h0 => by first | exact (f0 (upd_ne h0 (by decide))).up (Grows.below g5) | exact fun _ _ => rfl), (fun h1 => by first | exact (f1 (upd_ne h1 (by decide))).up (Grows.below g5) | exact fun _ _ => rfl), (fun h2 => by first | exact (f2 (upd_ne h2 (by decide))).up (Grows.below g5) | exact fun _ _ => rfl), (fun h3 => by first | exact (f3 (upd_ne h3 (by decide))).up (Grows.below g5) | exact fun _ _ => rfl), (fun _ => fun _ _ => rfl), (fun h5 => by first | exact (f5 (upd_ne h5 (by decide))).up (Grows.below g5) | exact fun _ _ => rfl)⟩
      · rintro d ⟨x47, x48, x49, x50, x51, x6⟩ w' hI hd hdp K hK
        dsimp only at hI
        obtain ⟨hB, f0, f1, f2, f3, f4, f5⟩ := hI
        obtain rfl := (f4 (hdp 4 (by decide +kernel))).now
        have HF : Hid _ := (And.intro hd (And.intro hB (And.intro f0 (And.intro f1 (And.intro f2 (And.intro f3 (And.intro f4 f5)))))))
        clear f0 f1 f2 f3 f4 f5 hB hdp hd
        refine Opn.mk ?_
        dsimp only
        go_simp
        obtain ⟨hd, hB, f0, f1, f2, f3, f4, f5⟩ := HF.out
        exact hK.out (x47, x48, x49, x50, .bool true, .bool true) _ ⟨hB.trans (Below.mono (Below.refl w'.heap.size w') hB.size), (fun h0 => by first | exact (f0 (upd_ne h0 (by decide))).up (Below.refl w'.heap.size w') | exact fun _ _ => rfl), (fun h1 => by first | exact (f1 (upd_ne h1 (by decide))).up (Below.refl w'.heap.size w') | exact fun _ _ => rfl), (fun h2 => by first | exact (f2 (upd_ne h2 (by decide))).up (Below.refl w'.heap.size w') | exact fun _ _ => rfl), (fun h3 => by first | exact (f3 (upd_ne h3 (by decide))).up (Below.refl w'.heap.size w') | exact fun _ _ => rfl), (fun h4 => by first | exact (f4 (upd_ne h4 (by decide))).up (Below.refl w'.heap.size w') | exact fun _ _ => rfl), (fun _ => fun _ _ => rfl)⟩
    case he47 =>
      rintro d ⟨x47, x48, x49, x50, x51, x6⟩ w' hall hI
      dsimp only at hI
      obtain ⟨hB, f0, f1, f2, f3, f4, f5⟩ := hI
      obtain rfl := (f5 (hall 5 (by decide))).now
      have HB' : Hid _ := hB
      clear hall hB f0 f1 f2 f3 f4 f5
      dsimp only
      go_wp2_with fail
      go_ret
      exact ⟨rfl, HBW.out.trans (HB'.out.mono HBW.out.size)⟩
end Go.Proofs.Ytkoihniggoelnaa
