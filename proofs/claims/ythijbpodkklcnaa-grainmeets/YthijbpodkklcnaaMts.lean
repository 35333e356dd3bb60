/- The walk of GrainMeets. -/
import Derived.Test.YthijbpodkklcnaaMtsA
namespace Go.Proofs.Ythijbpodkklcnaa
open Go.RowKit Go.Sort

set_option maxHeartbeats 4000000 in
set_option maxRecDepth 100000 in
theorem meets_walk (w : World) (a : Sp) (_ha : In64 a.1 ∧ In64 a.2) (b : Sp) (_hb : In64 b.1 ∧ In64 b.2) (c : Sp) (_hc : In64 c.1 ∧ In64 c.2) :
    Calls Try.prog 9 #[.agg #[.int .i64 a.1, .int .i64 a.2], .agg #[.int .i64 b.1, .int .i64 b.2], .agg #[.int .i64 c.1, .int .i64 c.2]] w fun e w' => e = .returned (.bool true) ∧ Below w.heap.size w w' := by
  clear _ha _hb _hc
  obtain ⟨W, hW⟩ : ∃ W, W = ((w.alloc (.cells #[.int .i64 a.1, .int .i64 a.2] 23)).alloc (.cells #[.int .i64 b.1, .int .i64 b.2] 23)).alloc (.cells #[.int .i64 c.1, .int .i64 c.2] 23) := ⟨_, rfl⟩
  have kA := awake_any W
  have bW : Below w.heap.size w W := by rw [hW]; exact (((Grows.alloc _ _).trans (Grows.alloc _ _)).trans (Grows.alloc _ _)).below
  have c0 : W.cell? ⟨w.heap.size, 0, none⟩ = some (.int .i64 a.1) ∧ W.cell? ⟨w.heap.size, 1, none⟩ = some (.int .i64 a.2) ∧ W.cell? ⟨w.heap.size + 1, 0, none⟩ = some (.int .i64 b.1) ∧ W.cell? ⟨w.heap.size + 1, 1, none⟩ = some (.int .i64 b.2) ∧ W.cell? ⟨w.heap.size + 1 + 1, 0, none⟩ = some (.int .i64 c.1) ∧ W.cell? ⟨w.heap.size + 1 + 1, 1, none⟩ = some (.int .i64 c.2) := by
    rw [hW]
    refine ⟨?_, ?_, ?_, ?_, ?_, ?_⟩
    · exact cell_grow (cell_grow (At.new w a _ rfl).1 _) _
    · exact cell_grow (cell_grow (At.new w a _ rfl).2 _) _
    · exact cell_grow (At.new _ b _ (by simp)).1 _
    · exact cell_grow (At.new _ b _ (by simp)).2 _
    · exact (At.new _ c _ (by simp)).1
    · exact (At.new _ c _ (by simp)).2
  have hsW : W.heap.size = w.heap.size + 3 := by rw [hW]; simp
  have HX : Hid _ := And.intro bW (And.intro c0 hsW)
  rw [hW] at kA
  have HW : Hid _ := hW
  clear hW bW c0 hsW
  go_enter Try.func9, Try.ntmps9
  go_wp2_with fail
  refine kA.mono ?_
  rintro e w1 ⟨rfl, bb1⟩
  rw [← HW.out] at bb1
  obtain ⟨bW, c0, hsW⟩ := HX.out
  have HB1 : Hid (Below w.heap.size w w1) := bW.trans (bb1.mono (by omega))
  have d : w1.cell? ⟨w.heap.size, 0, none⟩ = some (.int .i64 a.1) ∧ w1.cell? ⟨w.heap.size, 1, none⟩ = some (.int .i64 a.2) ∧ w1.cell? ⟨w.heap.size + 1, 0, none⟩ = some (.int .i64 b.1) ∧ w1.cell? ⟨w.heap.size + 1, 1, none⟩ = some (.int .i64 b.2) ∧ w1.cell? ⟨w.heap.size + 1 + 1, 0, none⟩ = some (.int .i64 c.1) ∧ w1.cell? ⟨w.heap.size + 1 + 1, 1, none⟩ = some (.int .i64 c.2) := by
    obtain ⟨e0, e1, e2, e3, e4, e5⟩ := c0
    refine ⟨?_, ?_, ?_, ?_, ?_, ?_⟩ <;> (rw [bb1.cell (by rw [hsW]; simp)]; assumption)
  obtain ⟨a1, a2⟩ := a
  obtain ⟨b1, b2⟩ := b
  obtain ⟨c1, c2⟩ := c
  simp only at *
  have kx := fun W => meet_any W (a1, a2) (b1, b2)
  have ky := fun W => meet_any W (b1, b2) (a1, a2)
  have kp := fun W => meet_any W (meet (a1, a2) (b1, b2)) (c1, c2)
  have kq := fun W => meet_any W (b1, b2) (c1, c2)
  have kr := fun W => meet_any W (a1, a2) (meet (b1, b2) (c1, c2))
  have kcx := fun W => covers_any W (a1, a2) (meet (a1, a2) (b1, b2))
  have kcy := fun W => covers_any W (b1, b2) (meet (a1, a2) (b1, b2))
  have kcab := fun W => covers_any W (a1, a2) (b1, b2)
  have keb := fun W => empty_any W (b1, b2)
  rw [cov_meet] at kcx
  rw [meet_comm (a1, a2) (b1, b2), cov_meet, meet_comm (b1, b2) (a1, a2)] at kcy
  rw [meet_comm (b1, b2) (a1, a2)] at ky
  rw [← meet_assoc] at kr
  have hcov := @cov_iff (a1, a2) (b1, b2)
  have hcovE : emp (b1, b2) = true → cov (a1, a2) (b1, b2) = true := fun h => by unfold cov; rw [h]; rfl
  generalize meet (meet (a1, a2) (b1, b2)) (c1, c2) = P at *
  generalize meet (b1, b2) (c1, c2) = Q at *
  generalize meet (a1, a2) (b1, b2) = X at *
  generalize cov (a1, a2) (b1, b2) = C at *
  generalize emp (b1, b2) = E at *
  obtain ⟨P1, P2⟩ := P
  obtain ⟨Q1, Q2⟩ := Q
  obtain ⟨X1, X2⟩ := X
  simp only at *
  obtain ⟨d0, d1, d2, d3, d4, d5⟩ := d
  have HC : Hid _ := hcov
  have HCE : Hid _ := hcovE
  have hs1 : w.heap.size + 3 ≤ w1.heap.size := by have := bb1.size; omega
  have h0 : w.heap.size < w1.heap.size := by omega
  have h1 : w.heap.size + 1 < w1.heap.size := by omega
  have h2 : w.heap.size + 1 + 1 < w1.heap.size := by omega
  clear kA HX bW c0 hsW bb1 HW hcov hcovE hs1
  go_wp2_with fail
  refine (kx _).mono ?_
  rintro e w2 ⟨rfl, g2⟩
  have hX := At.new w2 (X1, X2) _ rfl
  obtain ⟨wX, hwX⟩ : ∃ V, V = w2.alloc (.cells #[.int .i64 X1, .int .i64 X2] 23) := ⟨_, rfl⟩
  have gX : Grows w1 wX := by rw [hwX]; exact g2.trans (Grows.alloc _ _)
  rw [← hwX] at hX
  have HgX : Hid _ := And.intro hX gX
  have HWX : Hid _ := hwX
  have q0 := gX.cell d0
  have q1 := gX.cell d1
  have q2 := gX.cell d2
  have q3 := gX.cell d3
  rw [hwX] at q0 q1 q2 q3
  clear hX gX g2 hwX
  go_wp2_with fail
  refine (ky _).mono ?_
  rintro e w3 ⟨rfl, g3⟩
  rw [← HWX.out] at g3
  have hY := At.new w3 (X1, X2) _ rfl
  obtain ⟨V, hV⟩ : ∃ V, V = w3.alloc (.cells #[.int .i64 X1, .int .i64 X2] 23) := ⟨_, rfl⟩
  have gV : Grows wX V := by rw [hV]; exact g3.trans (Grows.alloc _ _)
  rw [← hV] at hY
  have gV1 : Grows w1 V := HgX.out.2.trans gV
  have x0 := gV.cell HgX.out.1.1
  have x1 := gV.cell HgX.out.1.2
  obtain ⟨y0, y1⟩ := hY
  simp only at x0 x1 y0 y1
  have HXY : Hid _ := And.intro x0 (And.intro x1 (And.intro y0 y1))
  have HGV : Hid _ := gV1
  have HBV : Hid (Below w.heap.size w V) := HB1.out.trans (gV1.below.mono (by omega))
  replace d0 := gV1.cell d0
  replace d1 := gV1.cell d1
  replace d2 := gV1.cell d2
  replace d3 := gV1.cell d3
  replace d4 := gV1.cell d4
  replace d5 := gV1.cell d5
  have HVV : Hid _ := hV
  clear gV gV1 g3 hV q0 q1 q2 q3 x0 x1 y0 y1 HB1 h0 h1 h2 HgX
  -- REGIONS
  go_wp2_with fail
  rw [← HVV.out]
  have keep10 : ∀ w', Grows V w' → (fun w' => Grows V w' ∧ w'.cell? ⟨w.heap.size, 0, none⟩ = some (.int .i64 a1) ∧ w'.cell? ⟨w.heap.size, 1, none⟩ = some (.int .i64 a2) ∧ w'.cell? ⟨w.heap.size + 1, 0, none⟩ = some (.int .i64 b1) ∧ w'.cell? ⟨w.heap.size + 1, 1, none⟩ = some (.int .i64 b2) ∧ w'.cell? ⟨w.heap.size + 1 + 1, 0, none⟩ = some (.int .i64 c1) ∧ w'.cell? ⟨w.heap.size + 1 + 1, 1, none⟩ = some (.int .i64 c2)) w' := fun w' g => ⟨g, g.cell d0, g.cell d1, g.cell d2, g.cell d3, g.cell d4, g.cell d5⟩
  go_cut [10] (fun t wA => ∃ B : Nat, t = .pointer (some ⟨B, 0, none⟩) ∧ (wA.cell? ⟨B, 0, none⟩ = some (.int .i64 P1) ∧ wA.cell? ⟨B, 1, none⟩ = some (.int .i64 P2)) ∧ Grows V wA)
  case first =>
    go_region_held (fun w' => Grows V w' ∧ w'.cell? ⟨w.heap.size, 0, none⟩ = some (.int .i64 a1) ∧ w'.cell? ⟨w.heap.size, 1, none⟩ = some (.int .i64 a2) ∧ w'.cell? ⟨w.heap.size + 1, 0, none⟩ = some (.int .i64 b1) ∧ w'.cell? ⟨w.heap.size + 1, 1, none⟩ = some (.int .i64 b2) ∧ w'.cell? ⟨w.heap.size + 1 + 1, 0, none⟩ = some (.int .i64 c1) ∧ w'.cell? ⟨w.heap.size + 1 + 1, 1, none⟩ = some (.int .i64 c2))
      (exact keep10 _ (by repeat' (first | with_reducible assumption | with_reducible exact Grows.refl _ | with_reducible refine Grows.drew1 ?_ | with_reducible refine Grows.put2 ?_ ?_ _ _ | with_reducible refine Grows.trans ?_ (Grows.alloc _ _) | omega)))
      (first
        | (go_at_call 11; (with_reducible refine (kx _).mono ?_); rintro e2 w2 ⟨rfl, g2⟩; have G2 : Grows V w2 := Grows.trans (by repeat' (first | with_reducible assumption | with_reducible exact Grows.refl _ | with_reducible refine Grows.drew1 ?_ | with_reducible refine Grows.put2 ?_ ?_ _ _ | with_reducible refine Grows.trans ?_ (Grows.alloc _ _) | omega)) g2; have hs2 := G2.below.size; (first | (have Z1 : BoxZ w2 V.heap.size := boxz1e g2; have l1 := BoxZ.lt Z1; have HZ1 : Hid (BoxZ w2 V.heap.size) := Z1; obtain ⟨⟨z0, z1⟩, zf⟩ := Z1) | (have Z1 : BoxZ w2 V.heap.size := boxz1d g2; have l1 := BoxZ.lt Z1; have HZ1 : Hid (BoxZ w2 V.heap.size) := Z1; obtain ⟨⟨z0, z1⟩, zf⟩ := Z1) | skip))
        | (go_at_call 11; (with_reducible refine (kp _).mono ?_); rintro e3 w3 ⟨rfl, g3⟩; have G3 : Grows V w3 := Grows.trans (by repeat' (first | with_reducible assumption | with_reducible exact Grows.refl _ | with_reducible refine Grows.drew1 ?_ | with_reducible refine Grows.put2 ?_ ?_ _ _ | with_reducible refine Grows.trans ?_ (Grows.alloc _ _) | omega)) g3; have hs3 := G3.below.size; (first | (have Y1 : BoxZ w3 V.heap.size := BoxZ.up HZ1.out g3; have HY1 : Hid (BoxZ w3 V.heap.size) := Y1; obtain ⟨⟨y0, y1⟩, yf⟩ := Y1) | (have Y1 : BoxZ w3 w2.heap.size := boxz1 g3; have HY1 : Hid (BoxZ w3 w2.heap.size) := Y1; obtain ⟨⟨y0, y1⟩, yf⟩ := Y1) | skip)))
    all_goals
      go_wp2_with fail
      go_meet
      case rel =>
        refine ⟨_, rfl, ?_, (by repeat' (first | with_reducible assumption | with_reducible exact Grows.refl _ | with_reducible refine Grows.drew1 ?_ | with_reducible refine Grows.put2 ?_ ?_ _ _ | with_reducible refine Grows.trans ?_ (Grows.alloc _ _) | omega))⟩
        first
          | with_reducible exact put2_get HY1.out _ _
          | exact ⟨by simp, by simp⟩
  case rest =>
    obtain ⟨BP, rfl, ⟨p0, p1⟩, gP⟩ := hcut
    rename World => V2
    have HG2 : Hid (Grows V V2 ∧ V2.cell? ⟨BP, 0, none⟩ = some (.int .i64 P1) ∧ V2.cell? ⟨BP, 1, none⟩ = some (.int .i64 P2)) := ⟨gP, p0, p1⟩
    replace d0 := gP.cell d0
    replace d1 := gP.cell d1
    replace d2 := gP.cell d2
    replace d3 := gP.cell d3
    replace d4 := gP.cell d4
    replace d5 := gP.cell d5
    clear keep10 gP p0 p1 kx kp ky
    go_wp2_with fail
    have keep11 : ∀ w', Grows V2 w' → (fun w' => Grows V2 w' ∧ w'.cell? ⟨w.heap.size, 0, none⟩ = some (.int .i64 a1) ∧ w'.cell? ⟨w.heap.size, 1, none⟩ = some (.int .i64 a2) ∧ w'.cell? ⟨w.heap.size + 1, 0, none⟩ = some (.int .i64 b1) ∧ w'.cell? ⟨w.heap.size + 1, 1, none⟩ = some (.int .i64 b2) ∧ w'.cell? ⟨w.heap.size + 1 + 1, 0, none⟩ = some (.int .i64 c1) ∧ w'.cell? ⟨w.heap.size + 1 + 1, 1, none⟩ = some (.int .i64 c2)) w' := fun w' g => ⟨g, g.cell d0, g.cell d1, g.cell d2, g.cell d3, g.cell d4, g.cell d5⟩
    go_cut [11] (fun t wA => ∃ B : Nat, t = .pointer (some ⟨B, 0, none⟩) ∧ (wA.cell? ⟨B, 0, none⟩ = some (.int .i64 P1) ∧ wA.cell? ⟨B, 1, none⟩ = some (.int .i64 P2)) ∧ Grows V2 wA)
    case first =>
      go_region_held (fun w' => Grows V2 w' ∧ w'.cell? ⟨w.heap.size, 0, none⟩ = some (.int .i64 a1) ∧ w'.cell? ⟨w.heap.size, 1, none⟩ = some (.int .i64 a2) ∧ w'.cell? ⟨w.heap.size + 1, 0, none⟩ = some (.int .i64 b1) ∧ w'.cell? ⟨w.heap.size + 1, 1, none⟩ = some (.int .i64 b2) ∧ w'.cell? ⟨w.heap.size + 1 + 1, 0, none⟩ = some (.int .i64 c1) ∧ w'.cell? ⟨w.heap.size + 1 + 1, 1, none⟩ = some (.int .i64 c2))
        (exact keep11 _ (by repeat' (first | with_reducible assumption | with_reducible exact Grows.refl _ | with_reducible refine Grows.drew1 ?_ | with_reducible refine Grows.put2 ?_ ?_ _ _ | with_reducible refine Grows.trans ?_ (Grows.alloc _ _) | omega)))
        (first
          | (go_at_call 11; (with_reducible refine (kq _).mono ?_); rintro e2 w2 ⟨rfl, g2⟩; have G2 : Grows V2 w2 := Grows.trans (by repeat' (first | with_reducible assumption | with_reducible exact Grows.refl _ | with_reducible refine Grows.drew1 ?_ | with_reducible refine Grows.put2 ?_ ?_ _ _ | with_reducible refine Grows.trans ?_ (Grows.alloc _ _) | omega)) g2; have hs2 := G2.below.size; (first | (have Z1 : BoxZ w2 V2.heap.size := boxz1e g2; have l1 := BoxZ.lt Z1; have HZ1 : Hid (BoxZ w2 V2.heap.size) := Z1; obtain ⟨⟨z0, z1⟩, zf⟩ := Z1) | (have Z1 : BoxZ w2 V2.heap.size := boxz1d g2; have l1 := BoxZ.lt Z1; have HZ1 : Hid (BoxZ w2 V2.heap.size) := Z1; obtain ⟨⟨z0, z1⟩, zf⟩ := Z1) | skip))
          | (go_at_call 11; (with_reducible refine (kr _).mono ?_); rintro e3 w3 ⟨rfl, g3⟩; have G3 : Grows V2 w3 := Grows.trans (by repeat' (first | with_reducible assumption | with_reducible exact Grows.refl _ | with_reducible refine Grows.drew1 ?_ | with_reducible refine Grows.put2 ?_ ?_ _ _ | with_reducible refine Grows.trans ?_ (Grows.alloc _ _) | omega)) g3; have hs3 := G3.below.size; (first | (have Y1 : BoxZ w3 V2.heap.size := BoxZ.up HZ1.out g3; have HY1 : Hid (BoxZ w3 V2.heap.size) := Y1; obtain ⟨⟨y0, y1⟩, yf⟩ := Y1) | (have Y1 : BoxZ w3 w2.heap.size := boxz1 g3; have HY1 : Hid (BoxZ w3 w2.heap.size) := Y1; obtain ⟨⟨y0, y1⟩, yf⟩ := Y1) | skip)))
      all_goals
        go_wp2_with fail
        go_meet
        case rel =>
          refine ⟨_, rfl, ?_, (by repeat' (first | with_reducible assumption | with_reducible exact Grows.refl _ | with_reducible refine Grows.drew1 ?_ | with_reducible refine Grows.put2 ?_ ?_ _ _ | with_reducible refine Grows.trans ?_ (Grows.alloc _ _) | omega))⟩
          first
            | with_reducible exact put2_get HY1.out _ _
            | exact ⟨by simp, by simp⟩
    case rest =>
      obtain ⟨BQ, rfl, ⟨r0, r1⟩, gQ⟩ := hcut
      rename World => V3
      obtain ⟨gP, p0, p1⟩ := HG2.out
      obtain ⟨x0, x1, y0, y1⟩ := HXY.out
      have gV3 : Grows V V3 := gP.trans gQ
      replace p0 := gQ.cell p0
      replace p1 := gQ.cell p1
      replace x0 := gV3.cell x0
      replace x1 := gV3.cell x1
      replace y0 := gV3.cell y0
      replace y1 := gV3.cell y1
      replace d0 := gQ.cell d0
      replace d1 := gQ.cell d1
      replace d2 := gQ.cell d2
      replace d3 := gQ.cell d3
      have HB3 : Hid (Below w.heap.size w V3) := HBV.out.trans (gV3.below.mono HBV.out.size)
      clear d4 d5 gQ gP gV3 keep11 kq kr HG2 HXY HBV
      go_wp2_with fail
      refine (kcx _).mono ?_
      rintro e w4 ⟨rfl, g4⟩
      replace x0 := g4.cell x0
      replace x1 := g4.cell x1
      replace d0 := g4.cell d0
      replace d1 := g4.cell d1
      replace d2 := g4.cell d2
      replace d3 := g4.cell d3
      have HB4 : Hid (Below w.heap.size w w4) := HB3.out.trans (g4.below.mono HB3.out.size)
      clear g4 p0 p1 y0 y1 r0 r1 HB3
      go_wp2_with fail
      refine (kcy _).mono ?_
      rintro e w5 ⟨rfl, g5⟩
      have x0' := fun nq os => cell_gr (g5.cell x0) nq os
      have x1' := fun nq os => cell_gr (g5.cell x1) nq os
      have d0' := fun nq os => cell_gr (g5.cell d0) nq os
      have d1' := fun nq os => cell_gr (g5.cell d1) nq os
      have d2' := fun nq os => cell_gr (g5.cell d2) nq os
      have d3' := fun nq os => cell_gr (g5.cell d3) nq os
      have HB5 : Hid (Below w.heap.size w w5) := HB4.out.trans (g5.below.mono HB4.out.size)
      have kE : ∀ nq os, Calls Try.prog 13 #[.agg #[.int .i64 b1, .int .i64 b2]] (grow (w5.drewN nq) os) fun e w' => e = .returned (.bool E) ∧ ∃ q os', w' = grow ((grow (w5.drewN nq) os).drewN q) os' := fun nq os => keb _
      have kC : ∀ nq os, Calls Try.prog 16 #[.agg #[.int .i64 a1, .int .i64 a2], .agg #[.int .i64 b1, .int .i64 b2]] (grow (w5.drewN nq) os) fun e w' => e = .returned (.bool C) ∧ ∃ q os', w' = grow ((grow (w5.drewN nq) os).drewN q) os' := fun nq os => kcab _
      clear g5 HB4 x0 x1 d0 d1 d2 d3 keb kcab kcx kcy
      have mixed : Try.prog.follows .mixedOrders = true := by kernel_rfl
      cases E with
      | true =>
        have hC := HCE.out rfl
        subst hC
        go_wp2_with fail
        refine wp_region_quiet_grown (by assumption) (by kernel_rfl) ?_
        repeat (go_big_quiet_step (first | (go_at_call 13; with_reducible refine Calls.grown_of (kE _ _)) | (go_at_call 16; with_reducible refine Calls.grown_of (kC _ _))))
        refine wpQuiet_nil ?_
        intro _ hw'
        obtain ⟨⟨nq, osq⟩, hw''⟩ := hw'
        subst hw''
        go_wp2_with fail
        go_ret
        exact ⟨rfl, HB5.out.trans ((Grows.below ⟨nq, osq, rfl⟩).mono HB5.out.size)⟩
      | false =>
        have HC2 : Hid _ := HC.out rfl
        by_cases hx : X1 = b1
        · by_cases hy : X2 = b2
          · subst hx hy
            have hC : C = true := by rw [HC2.out]; simp
            subst hC
            go_wp2_with fail
            refine wp_region_quiet_grown (by assumption) (by kernel_rfl) ?_
            repeat (go_big_quiet_step (first | (go_at_call 13; with_reducible refine Calls.grown_of (kE _ _)) | (go_at_call 16; with_reducible refine Calls.grown_of (kC _ _))))
            refine wpQuiet_nil ?_
            intro _ hw'
            obtain ⟨⟨nq, osq⟩, hw''⟩ := hw'
            subst hw''
            go_wp2_with fail
            go_ret
            exact ⟨rfl, HB5.out.trans ((Grows.below ⟨nq, osq, rfl⟩).mono HB5.out.size)⟩
          · subst hx
            have hC : C = false := by rw [HC2.out]; simp [hy]
            subst hC
            have hyb : (X2 == b2) = false := by simp [hy]
            go_wp2_with fail
            refine wp_region_quiet_grown (by assumption) (by kernel_rfl) ?_
            repeat (go_big_quiet_step (first | (go_at_call 13; with_reducible refine Calls.grown_of (kE _ _)) | (go_at_call 16; with_reducible refine Calls.grown_of (kC _ _))))
            refine wpQuiet_nil ?_
            intro _ hw'
            obtain ⟨⟨nq, osq⟩, hw''⟩ := hw'
            subst hw''
            go_wp2_with fail
            go_ret
            exact ⟨rfl, HB5.out.trans ((Grows.below ⟨nq, osq, rfl⟩).mono HB5.out.size)⟩
        · have hC : C = false := by rw [HC2.out]; simp [hx]
          subst hC
          have hxb : (X1 == b1) = false := by simp [hx]
          go_wp2_with fail
          refine wp_region_quiet_grown (by assumption) (by kernel_rfl) ?_
          repeat (go_big_quiet_step (first | (go_at_call 13; with_reducible refine Calls.grown_of (kE _ _)) | (go_at_call 16; with_reducible refine Calls.grown_of (kC _ _))))
          refine wpQuiet_nil ?_
          intro _ hw'
          obtain ⟨⟨nq, osq⟩, hw''⟩ := hw'
          subst hw''
          go_wp2_with fail
          go_ret
          exact ⟨rfl, HB5.out.trans ((Grows.below ⟨nq, osq, rfl⟩).mono HB5.out.size)⟩
end Go.Proofs.Ythijbpodkklcnaa
