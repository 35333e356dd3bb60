/- The walk of GrainHolds. -/
import Derived.Test.YthijbpodkklcnaaMtsA
import Derived.Test.YthijbpodkklcnaaRPrt
namespace Go.Proofs.Ythijbpodkklcnaa
open Go.RowKit Go.Sort

theorem hol_meet (a b : Sp) (t : Int) : hol (meet a b) t = (hol a t && hol b t) := by
  obtain ⟨a1, a2⟩ := a; obtain ⟨b1, b2⟩ := b
  rw [Bool.eq_iff_iff, Bool.and_eq_true, hol_iff, hol_iff, hol_iff]
  by_cases h1 : min a2 b2 ≤ max a1 b1
  · have e1 : meet (a1, a2) (b1, b2) = (0, 0) := if_pos h1
    rw [e1]; simp only; omega
  · have e1 : meet (a1, a2) (b1, b2) = (max a1 b1, min a2 b2) := if_neg h1
    rw [e1]; simp only; omega
theorem meet_empty {a b : Sp} (h : emp (meet a b) = true) : meet a b = (0, 0) := by
  obtain ⟨a1, a2⟩ := a; obtain ⟨b1, b2⟩ := b
  by_cases h1 : min a2 b2 ≤ max a1 b1
  · exact if_pos h1
  · have e1 : meet (a1, a2) (b1, b2) = (max a1 b1, min a2 b2) := if_neg h1
    rw [e1] at h
    have : min a2 b2 ≤ max a1 b1 := by simpa [emp] using h
    exact absurd this h1
/-- One covers another one just where nothing of that is left without it. -/
theorem cov_parts (a b : Sp) : cov a b = decide ((parts [b] [a]).length = 0) := by
  obtain ⟨hn, ha⟩ := parts_norm [b] [a]
  have hw : ∀ t, want [b] [a] t = (hol b t && !hol a t) := fun t => by simp [want, any]
  by_cases c : cov a b = true
  · have : parts [b] [a] = [] := norm_unique _ _ hn Norm.nil fun t => by
      rw [ha, hw, any_nil]
      have hc : (b.2 ≤ b.1) ∨ (a.1 ≤ b.1 ∧ b.2 ≤ a.2) := by simpa [cov, emp] using c
      rw [Bool.eq_false_iff]
      intro h
      rw [Bool.and_eq_true, Bool.not_eq_true', hol_iff] at h
      have h2 : ¬ (a.1 ≤ t ∧ t < a.2) := fun k => by rw [(hol_iff a t).2 k] at h; cases h.2
      omega
    rw [c, this]; rfl
  · have c' : ¬ ((b.2 ≤ b.1) ∨ (a.1 ≤ b.1 ∧ b.2 ≤ a.2)) := by simpa [cov, emp] using c
    have : (parts [b] [a]).length ≠ 0 := fun h0 => by
      have hz := List.eq_nil_of_length_eq_zero h0
      have key : ∀ t, (b.1 ≤ t ∧ t < b.2) → ¬ (a.1 ≤ t ∧ t < a.2) → False := fun t k1 k2 => by
        have h1 := ha t
        rw [hz, any_nil, hw, (hol_iff b t).2 k1] at h1
        have h2 : hol a t = false := by rw [Bool.eq_false_iff]; intro h; exact k2 ((hol_iff a t).1 h)
        rw [h2] at h1; cases h1
      by_cases c1 : a.1 ≤ b.1
      · exact key (max b.1 a.2) (by omega) (by omega)
      · exact key b.1 (by omega) (by omega)
    rw [Bool.not_eq_true] at c
    rw [c, decide_eq_false this]

set_option maxHeartbeats 8000000 in
set_option maxRecDepth 100000 in
theorem holds_walk (w : World) (a : Sp) (_ha : In64 a.1 ∧ In64 a.2) (b : Sp) (_hb : In64 b.1 ∧ In64 b.2) (t : Int) (_ht : In64 t) :
    Calls Try.prog 3 #[.agg #[.int .i64 a.1, .int .i64 a.2], .agg #[.int .i64 b.1, .int .i64 b.2], .int .i64 t] w fun e w' => e = .returned (.bool true) ∧ Below w.heap.size w w' := by
  clear _ha _hb _ht
  obtain ⟨W, hW⟩ : ∃ W, W = (w.alloc (.cells #[.int .i64 a.1, .int .i64 a.2] 23)).alloc (.cells #[.int .i64 b.1, .int .i64 b.2] 23) := ⟨_, rfl⟩
  have kA := awake_any W
  have bW : Below w.heap.size w W := by rw [hW]; exact ((Grows.alloc _ _).trans (Grows.alloc _ _)).below
  have c0 : W.cell? ⟨w.heap.size, 0, none⟩ = some (.int .i64 a.1) ∧ W.cell? ⟨w.heap.size, 1, none⟩ = some (.int .i64 a.2) ∧ W.cell? ⟨w.heap.size + 1, 0, none⟩ = some (.int .i64 b.1) ∧ W.cell? ⟨w.heap.size + 1, 1, none⟩ = some (.int .i64 b.2) := by
    rw [hW]
    exact ⟨cell_grow (At.new w a _ rfl).1 _, cell_grow (At.new w a _ rfl).2 _, (At.new _ b _ (by simp)).1, (At.new _ b _ (by simp)).2⟩
  have hsW : W.heap.size = w.heap.size + 2 := by rw [hW]; simp
  have HX : Hid _ := And.intro bW (And.intro c0 hsW)
  rw [hW] at kA
  have HW : Hid _ := hW
  clear hW bW c0 hsW
  go_enter Try.func3, Try.ntmps3
  go_wp2_with fail
  refine kA.mono ?_
  rintro e w1 ⟨rfl, bb1⟩
  rw [← HW.out] at bb1
  obtain ⟨bW, c0, hsW⟩ := HX.out
  have HB1 : Hid (Below w.heap.size w w1) := bW.trans (bb1.mono (by omega))
  have d : w1.cell? ⟨w.heap.size, 0, none⟩ = some (.int .i64 a.1) ∧ w1.cell? ⟨w.heap.size, 1, none⟩ = some (.int .i64 a.2) ∧ w1.cell? ⟨w.heap.size + 1, 0, none⟩ = some (.int .i64 b.1) ∧ w1.cell? ⟨w.heap.size + 1, 1, none⟩ = some (.int .i64 b.2) := by
    obtain ⟨e0, e1, e2, e3⟩ := c0
    refine ⟨?_, ?_, ?_, ?_⟩ <;> (rw [bb1.cell (by rw [hsW]; simp)]; assumption)
  obtain ⟨a1, a2⟩ := a
  obtain ⟨b1, b2⟩ := b
  simp only at *
  have kx := fun W => meet_any W (a1, a2) (b1, b2)
  have kra := fun W => refholds_any W (a1, a2) t
  have krb := fun W => refholds_any W (b1, b2) t
  have kha := fun W => holds_any W (a1, a2) t
  have khm := fun W => holds_any W (meet (a1, a2) (b1, b2)) t
  have kem := fun W => empty_any W (meet (a1, a2) (b1, b2))
  have kea : ∀ W, Calls Try.prog 13 #[.agg #[.int .i64 a1, .int .i64 a2]] W fun e w' => e = .returned (.bool (decide (a1 ≥ a2))) ∧ Grows W w' := fun W => (empty_ex W a1 a2).mono fun _ _ ⟨h1, h2⟩ => ⟨h1, by rw [h2]; exact Grows.alloc _ _⟩
  have hme := @meet_empty (a1, a2) (b1, b2)
  rw [hol_meet] at khm
  generalize hol (a1, a2) t = ya at *
  generalize hol (b1, b2) t = yb at *
  generalize emp (meet (a1, a2) (b1, b2)) = E at *
  generalize meet (a1, a2) (b1, b2) = X at *
  obtain ⟨X1, X2⟩ := X
  simp only at *
  obtain ⟨d0, d1, d2, d3⟩ := d
  have HME : Hid _ := hme
  clear kA HX bW c0 hsW bb1 HW hme
  go_wp2_with fail
  refine (kx _).mono ?_
  rintro e w2 ⟨rfl, g2⟩
  have hX := At.new w2 (X1, X2) _ rfl
  obtain ⟨wX, hwX⟩ : ∃ V, V = w2.alloc (.cells #[.int .i64 X1, .int .i64 X2] 23) := ⟨_, rfl⟩
  have gX : Grows w1 wX := by rw [hwX]; exact g2.trans (Grows.alloc _ _)
  rw [← hwX] at hX
  try simp only at hX
  have q0 := gX.cell d0
  have q1 := gX.cell d1
  have HQ : Hid _ := And.intro (gX.cell d0) (And.intro (gX.cell d1) (And.intro (gX.cell d2) (And.intro (gX.cell d3) hX)))
  have HWX : Hid _ := hwX
  have HBX : Hid (Below w.heap.size w wX) := HB1.out.trans (gX.below.mono HB1.out.size)
  rw [hwX] at q0 q1
  have krb' := krb
  clear gX g2 hwX hX kx d0 d1 d2 d3 HB1
  have mixed : Try.prog.follows .mixedOrders = true := by kernel_rfl
  go_wp2_with fail
  refine (kra _).mono ?_
  rintro e w3 ⟨rfl, g3⟩
  rw [← HWX.out] at g3
  obtain ⟨p0, p1, p2, p3, p4, p5⟩ := HQ.out
  have s0 := g3.cell p0
  have s1 := g3.cell p1
  have s2 := g3.cell p2
  have s3 := g3.cell p3
  have s4 := g3.cell p4
  have s5 := g3.cell p5
  have HB3 : Hid (Below w.heap.size w w3) := HBX.out.trans (g3.below.mono HBX.out.size)
  clear p0 p1 p2 p3 p4 p5 HQ g3 q0 q1 HBX
  cases ya with
  | false =>
    obtain ⟨w4, hw4⟩ : ∃ V, V = w3 := ⟨_, rfl⟩
    rw [← hw4] at s0 s1 s2 s3 s4 s5 HB3 ⊢
    clear hw4
    have HB4 : Hid _ := HB3.out
    have a0 := id s0
    have a1' := id s1
    have b0 := id s2
    have b1' := id s3
    have a0' := fun nq os => cell_gr a0 nq os
    have a1'' := fun nq os => cell_gr a1' nq os
    have b0' := fun nq os => cell_gr b0 nq os
    have b1'' := fun nq os => cell_gr b1' nq os
    have m0 := id s4
    have m1 := id s5
    have m0' := fun nq os => cell_gr m0 nq os
    have m1' := fun nq os => cell_gr m1 nq os
    have kEa : ∀ nq os, Calls Try.prog 13 #[.agg #[.int .i64 a1, .int .i64 a2]] (grow (w4.drewN nq) os) fun e w' => e = .returned (.bool (decide (a1 ≥ a2))) ∧ ∃ q os', w' = grow ((grow (w4.drewN nq) os).drewN q) os' := fun nq os => kea _
    have kEm : ∀ nq os, Calls Try.prog 13 #[.agg #[.int .i64 X1, .int .i64 X2]] (grow (w4.drewN nq) os) fun e w' => e = .returned (.bool E) ∧ ∃ q os', w' = grow ((grow (w4.drewN nq) os).drewN q) os' := fun nq os => kem _
    have kHa : ∀ nq os, Calls Try.prog 14 #[.agg #[.int .i64 a1, .int .i64 a2], .int .i64 t] (grow (w4.drewN nq) os) fun e w' => e = .returned (.bool false) ∧ ∃ q os', w' = grow ((grow (w4.drewN nq) os).drewN q) os' := fun nq os => kha _
    have kRa : ∀ nq os, Calls Try.prog 12 #[.agg #[.int .i64 a1, .int .i64 a2], .int .i64 t] (grow (w4.drewN nq) os) fun e w' => e = .returned (.bool false) ∧ ∃ q os', w' = grow ((grow (w4.drewN nq) os).drewN q) os' := fun nq os => kra _
    have kHm : ∀ nq os, Calls Try.prog 14 #[.agg #[.int .i64 X1, .int .i64 X2], .int .i64 t] (grow (w4.drewN nq) os) fun e w' => e = .returned (.bool false) ∧ ∃ q os', w' = grow ((grow (w4.drewN nq) os).drewN q) os' := fun nq os => khm _
    clear m0 m1 kea kem kha kra khm krb krb' s0 s1 s2 s3 s4 s5
    cases E with
    | true =>
      have hz := HME.out rfl
      simp only [Prod.mk.injEq] at hz
      obtain ⟨rfl, rfl⟩ := hz
      go_wp2_with fail
      refine wp_region_quiet_grown (by assumption) (by kernel_rfl) ?_
      repeat (go_big_quiet_step (first | (go_at_call 13; with_reducible refine Calls.grown_of (kEa _ _)) | (go_at_call 13; with_reducible refine Calls.grown_of (kEm _ _)) | (go_at_call 14; with_reducible refine Calls.grown_of (kHa _ _)) | (go_at_call 14; with_reducible refine Calls.grown_of (kHm _ _)) | (go_at_call 12; with_reducible refine Calls.grown_of (kRa _ _))))
      refine wpQuiet_nil ?_
      intro Y hw'
      obtain ⟨⟨nq, osq⟩, hw''⟩ := hw'
      have g6 : Grows w4 Y := ⟨nq, osq, hw''⟩
      clear hw''
      have y0 := g6.cell a0
      have y1 := g6.cell a1'
      have y2 := g6.cell b0
      have y3 := g6.cell b1'
      have kP := refparts_any ((Y.alloc (.cells #[.int .i64 b1, .int .i64 b2] 23)).alloc (.cells #[.int .i64 a1, .int .i64 a2] 23)) _ _ [(b1, b2)] [(a1, a2)] ((one_rds Y (b1, b2) _ rfl).below ((Below.refl _ _).alloc (Nat.le_refl _) _)) (one_rds _ (a1, a2) _ rfl) (by simp)
      rw [show (Y.alloc (.cells #[.int .i64 b1, .int .i64 b2] 23)).heap.size = Y.heap.size + 1 by simp] at kP
      have x0 := cell_grow y0 (.cells #[.int .i64 b1, .int .i64 b2] 23)
      have x1 := cell_grow y1 (.cells #[.int .i64 b1, .int .i64 b2] 23)
      have HYB : Hid (Below w.heap.size w Y) := HB4.out.trans (g6.below.mono HB4.out.size)
      have HY2 : Hid (Grows Y ((Y.alloc (.cells #[.int .i64 b1, .int .i64 b2] 23)).alloc (.cells #[.int .i64 a1, .int .i64 a2] 23))) := (Grows.alloc _ _).trans (Grows.alloc _ _)
      clear g6 kEa kEm kHa kHm kRa a0 a1' b0 b1'
      go_wp2_with fail
      refine kP.mono ?_
      rintro e w7 ⟨v7, rfl, r7, b7⟩
      have bY7 : Below Y.heap.size Y w7 := HY2.out.below.trans (b7.mono HY2.out.below.size)
      have z0 : w7.cell? ⟨w.heap.size, 0, none⟩ = some (.int .i64 a1) := by rw [bY7.cell (World.block_lt_of_cell? _ _ y0)]; exact y0
      have z1 : w7.cell? ⟨w.heap.size, 1, none⟩ = some (.int .i64 a2) := by rw [bY7.cell (World.block_lt_of_cell? _ _ y1)]; exact y1
      have z2 : w7.cell? ⟨w.heap.size + 1, 0, none⟩ = some (.int .i64 b1) := by rw [bY7.cell (World.block_lt_of_cell? _ _ y2)]; exact y2
      have z3 : w7.cell? ⟨w.heap.size + 1, 1, none⟩ = some (.int .i64 b2) := by rw [bY7.cell (World.block_lt_of_cell? _ _ y3)]; exact y3
      have kC := covers_any w7 (a1, a2) (b1, b2)
      have HCp := cov_parts (a1, a2) (b1, b2)
      obtain ⟨aL, nL, cL, rfl⟩ := r7.sl
      have hnL := r7.at.1
      rw [HCp, ← hnL] at kC
      have HB7 : Hid (Below w.heap.size w w7) := HYB.out.trans (bY7.mono HYB.out.size)
      clear kP r7 b7 bY7 y0 y1 y2 y3 x0 x1 hnL HCp
      by_cases hL : nL = 0
      · have hLb : decide (nL = 0) = true := by simp [hL]
        have hLz : ((nL : Int) == 0) = true := by simp [hL]
        rw [hLb] at kC
        clear hLb hL
        go_wp2_with fail
        refine kC.mono ?_
        rintro e w8 ⟨rfl, g8⟩
        have HB8 : Hid (Below w.heap.size w w8) := HB7.out.trans (g8.below.mono HB7.out.size)
        clear g8 kC
        go_wp2_with fail
        go_ret
        exact ⟨rfl, HB8.out⟩
      · have hLb : decide (nL = 0) = false := by simp [hL]
        have hLz : ((nL : Int) == 0) = false := by simp [hL]
        rw [hLb] at kC
        clear hLb
        go_wp2_with fail
        refine kC.mono ?_
        rintro e w8 ⟨rfl, g8⟩
        have HB8 : Hid (Below w.heap.size w w8) := HB7.out.trans (g8.below.mono HB7.out.size)
        clear g8 kC
        go_wp2_with fail
        go_ret
        exact ⟨rfl, HB8.out⟩
    | false =>
      go_wp2_with fail
      refine wp_region_quiet_grown (by assumption) (by kernel_rfl) ?_
      repeat (go_big_quiet_step (first | (go_at_call 13; with_reducible refine Calls.grown_of (kEa _ _)) | (go_at_call 13; with_reducible refine Calls.grown_of (kEm _ _)) | (go_at_call 14; with_reducible refine Calls.grown_of (kHa _ _)) | (go_at_call 14; with_reducible refine Calls.grown_of (kHm _ _)) | (go_at_call 12; with_reducible refine Calls.grown_of (kRa _ _))))
      refine wpQuiet_nil ?_
      intro Y hw'
      obtain ⟨⟨nq, osq⟩, hw''⟩ := hw'
      have g6 : Grows w4 Y := ⟨nq, osq, hw''⟩
      clear hw''
      have y0 := g6.cell a0
      have y1 := g6.cell a1'
      have y2 := g6.cell b0
      have y3 := g6.cell b1'
      have kP := refparts_any ((Y.alloc (.cells #[.int .i64 b1, .int .i64 b2] 23)).alloc (.cells #[.int .i64 a1, .int .i64 a2] 23)) _ _ [(b1, b2)] [(a1, a2)] ((one_rds Y (b1, b2) _ rfl).below ((Below.refl _ _).alloc (Nat.le_refl _) _)) (one_rds _ (a1, a2) _ rfl) (by simp)
      rw [show (Y.alloc (.cells #[.int .i64 b1, .int .i64 b2] 23)).heap.size = Y.heap.size + 1 by simp] at kP
      have x0 := cell_grow y0 (.cells #[.int .i64 b1, .int .i64 b2] 23)
      have x1 := cell_grow y1 (.cells #[.int .i64 b1, .int .i64 b2] 23)
      have HYB : Hid (Below w.heap.size w Y) := HB4.out.trans (g6.below.mono HB4.out.size)
      have HY2 : Hid (Grows Y ((Y.alloc (.cells #[.int .i64 b1, .int .i64 b2] 23)).alloc (.cells #[.int .i64 a1, .int .i64 a2] 23))) := (Grows.alloc _ _).trans (Grows.alloc _ _)
      clear g6 kEa kEm kHa kHm kRa a0 a1' b0 b1'
      go_wp2_with fail
      refine kP.mono ?_
      rintro e w7 ⟨v7, rfl, r7, b7⟩
      have bY7 : Below Y.heap.size Y w7 := HY2.out.below.trans (b7.mono HY2.out.below.size)
      have z0 : w7.cell? ⟨w.heap.size, 0, none⟩ = some (.int .i64 a1) := by rw [bY7.cell (World.block_lt_of_cell? _ _ y0)]; exact y0
      have z1 : w7.cell? ⟨w.heap.size, 1, none⟩ = some (.int .i64 a2) := by rw [bY7.cell (World.block_lt_of_cell? _ _ y1)]; exact y1
      have z2 : w7.cell? ⟨w.heap.size + 1, 0, none⟩ = some (.int .i64 b1) := by rw [bY7.cell (World.block_lt_of_cell? _ _ y2)]; exact y2
      have z3 : w7.cell? ⟨w.heap.size + 1, 1, none⟩ = some (.int .i64 b2) := by rw [bY7.cell (World.block_lt_of_cell? _ _ y3)]; exact y3
      have kC := covers_any w7 (a1, a2) (b1, b2)
      have HCp := cov_parts (a1, a2) (b1, b2)
      obtain ⟨aL, nL, cL, rfl⟩ := r7.sl
      have hnL := r7.at.1
      rw [HCp, ← hnL] at kC
      have HB7 : Hid (Below w.heap.size w w7) := HYB.out.trans (bY7.mono HYB.out.size)
      clear kP r7 b7 bY7 y0 y1 y2 y3 x0 x1 hnL HCp
      by_cases hL : nL = 0
      · have hLb : decide (nL = 0) = true := by simp [hL]
        have hLz : ((nL : Int) == 0) = true := by simp [hL]
        rw [hLb] at kC
        clear hLb hL
        go_wp2_with fail
        refine kC.mono ?_
        rintro e w8 ⟨rfl, g8⟩
        have HB8 : Hid (Below w.heap.size w w8) := HB7.out.trans (g8.below.mono HB7.out.size)
        clear g8 kC
        go_wp2_with fail
        go_ret
        exact ⟨rfl, HB8.out⟩
      · have hLb : decide (nL = 0) = false := by simp [hL]
        have hLz : ((nL : Int) == 0) = false := by simp [hL]
        rw [hLb] at kC
        clear hLb
        go_wp2_with fail
        refine kC.mono ?_
        rintro e w8 ⟨rfl, g8⟩
        have HB8 : Hid (Below w.heap.size w w8) := HB7.out.trans (g8.below.mono HB7.out.size)
        clear g8 kC
        go_wp2_with fail
        go_ret
        exact ⟨rfl, HB8.out⟩
  | true =>
    cases yb with
    | false =>
      go_wp2_with fail
      refine (krb _).mono ?_
      rintro e w4 ⟨rfl, g4⟩
      have HB4 : Hid (Below w.heap.size w w4) := HB3.out.trans (g4.below.mono HB3.out.size)
      have a0 := g4.cell s0
      have a1' := g4.cell s1
      have b0 := g4.cell s2
      have b1' := g4.cell s3
      have a0' := fun nq os => cell_gr a0 nq os
      have a1'' := fun nq os => cell_gr a1' nq os
      have b0' := fun nq os => cell_gr b0 nq os
      have b1'' := fun nq os => cell_gr b1' nq os
      have m0 := g4.cell s4
      have m1 := g4.cell s5
      have m0' := fun nq os => cell_gr m0 nq os
      have m1' := fun nq os => cell_gr m1 nq os
      have kEa : ∀ nq os, Calls Try.prog 13 #[.agg #[.int .i64 a1, .int .i64 a2]] (grow (w4.drewN nq) os) fun e w' => e = .returned (.bool (decide (a1 ≥ a2))) ∧ ∃ q os', w' = grow ((grow (w4.drewN nq) os).drewN q) os' := fun nq os => kea _
      have kEm : ∀ nq os, Calls Try.prog 13 #[.agg #[.int .i64 X1, .int .i64 X2]] (grow (w4.drewN nq) os) fun e w' => e = .returned (.bool E) ∧ ∃ q os', w' = grow ((grow (w4.drewN nq) os).drewN q) os' := fun nq os => kem _
      have kHa : ∀ nq os, Calls Try.prog 14 #[.agg #[.int .i64 a1, .int .i64 a2], .int .i64 t] (grow (w4.drewN nq) os) fun e w' => e = .returned (.bool true) ∧ ∃ q os', w' = grow ((grow (w4.drewN nq) os).drewN q) os' := fun nq os => kha _
      have kRa : ∀ nq os, Calls Try.prog 12 #[.agg #[.int .i64 a1, .int .i64 a2], .int .i64 t] (grow (w4.drewN nq) os) fun e w' => e = .returned (.bool true) ∧ ∃ q os', w' = grow ((grow (w4.drewN nq) os).drewN q) os' := fun nq os => kra _
      have kHm : ∀ nq os, Calls Try.prog 14 #[.agg #[.int .i64 X1, .int .i64 X2], .int .i64 t] (grow (w4.drewN nq) os) fun e w' => e = .returned (.bool false) ∧ ∃ q os', w' = grow ((grow (w4.drewN nq) os).drewN q) os' := fun nq os => khm _
      clear m0 m1 kea kem kha kra khm krb krb' s0 s1 s2 s3 s4 s5
      clear g4
      cases E with
      | true =>
        have hz := HME.out rfl
        simp only [Prod.mk.injEq] at hz
        obtain ⟨rfl, rfl⟩ := hz
        go_wp2_with fail
        refine wp_region_quiet_grown (by assumption) (by kernel_rfl) ?_
        repeat (go_big_quiet_step (first | (go_at_call 13; with_reducible refine Calls.grown_of (kEa _ _)) | (go_at_call 13; with_reducible refine Calls.grown_of (kEm _ _)) | (go_at_call 14; with_reducible refine Calls.grown_of (kHa _ _)) | (go_at_call 14; with_reducible refine Calls.grown_of (kHm _ _)) | (go_at_call 12; with_reducible refine Calls.grown_of (kRa _ _))))
        refine wpQuiet_nil ?_
        intro Y hw'
        obtain ⟨⟨nq, osq⟩, hw''⟩ := hw'
        have g6 : Grows w4 Y := ⟨nq, osq, hw''⟩
        clear hw''
        have y0 := g6.cell a0
        have y1 := g6.cell a1'
        have y2 := g6.cell b0
        have y3 := g6.cell b1'
        have kP := refparts_any ((Y.alloc (.cells #[.int .i64 b1, .int .i64 b2] 23)).alloc (.cells #[.int .i64 a1, .int .i64 a2] 23)) _ _ [(b1, b2)] [(a1, a2)] ((one_rds Y (b1, b2) _ rfl).below ((Below.refl _ _).alloc (Nat.le_refl _) _)) (one_rds _ (a1, a2) _ rfl) (by simp)
        rw [show (Y.alloc (.cells #[.int .i64 b1, .int .i64 b2] 23)).heap.size = Y.heap.size + 1 by simp] at kP
        have x0 := cell_grow y0 (.cells #[.int .i64 b1, .int .i64 b2] 23)
        have x1 := cell_grow y1 (.cells #[.int .i64 b1, .int .i64 b2] 23)
        have HYB : Hid (Below w.heap.size w Y) := HB4.out.trans (g6.below.mono HB4.out.size)
        have HY2 : Hid (Grows Y ((Y.alloc (.cells #[.int .i64 b1, .int .i64 b2] 23)).alloc (.cells #[.int .i64 a1, .int .i64 a2] 23))) := (Grows.alloc _ _).trans (Grows.alloc _ _)
        clear g6 kEa kEm kHa kHm kRa a0 a1' b0 b1'
        go_wp2_with fail
        refine kP.mono ?_
        rintro e w7 ⟨v7, rfl, r7, b7⟩
        have bY7 : Below Y.heap.size Y w7 := HY2.out.below.trans (b7.mono HY2.out.below.size)
        have z0 : w7.cell? ⟨w.heap.size, 0, none⟩ = some (.int .i64 a1) := by rw [bY7.cell (World.block_lt_of_cell? _ _ y0)]; exact y0
        have z1 : w7.cell? ⟨w.heap.size, 1, none⟩ = some (.int .i64 a2) := by rw [bY7.cell (World.block_lt_of_cell? _ _ y1)]; exact y1
        have z2 : w7.cell? ⟨w.heap.size + 1, 0, none⟩ = some (.int .i64 b1) := by rw [bY7.cell (World.block_lt_of_cell? _ _ y2)]; exact y2
        have z3 : w7.cell? ⟨w.heap.size + 1, 1, none⟩ = some (.int .i64 b2) := by rw [bY7.cell (World.block_lt_of_cell? _ _ y3)]; exact y3
        have kC := covers_any w7 (a1, a2) (b1, b2)
        have HCp := cov_parts (a1, a2) (b1, b2)
        obtain ⟨aL, nL, cL, rfl⟩ := r7.sl
        have hnL := r7.at.1
        rw [HCp, ← hnL] at kC
        have HB7 : Hid (Below w.heap.size w w7) := HYB.out.trans (bY7.mono HYB.out.size)
        clear kP r7 b7 bY7 y0 y1 y2 y3 x0 x1 hnL HCp
        by_cases hL : nL = 0
        · have hLb : decide (nL = 0) = true := by simp [hL]
          have hLz : ((nL : Int) == 0) = true := by simp [hL]
          rw [hLb] at kC
          clear hLb hL
          go_wp2_with fail
          refine kC.mono ?_
          rintro e w8 ⟨rfl, g8⟩
          have HB8 : Hid (Below w.heap.size w w8) := HB7.out.trans (g8.below.mono HB7.out.size)
          clear g8 kC
          go_wp2_with fail
          go_ret
          exact ⟨rfl, HB8.out⟩
        · have hLb : decide (nL = 0) = false := by simp [hL]
          have hLz : ((nL : Int) == 0) = false := by simp [hL]
          rw [hLb] at kC
          clear hLb
          go_wp2_with fail
          refine kC.mono ?_
          rintro e w8 ⟨rfl, g8⟩
          have HB8 : Hid (Below w.heap.size w w8) := HB7.out.trans (g8.below.mono HB7.out.size)
          clear g8 kC
          go_wp2_with fail
          go_ret
          exact ⟨rfl, HB8.out⟩
      | false =>
        go_wp2_with fail
        refine wp_region_quiet_grown (by assumption) (by kernel_rfl) ?_
        repeat (go_big_quiet_step (first | (go_at_call 13; with_reducible refine Calls.grown_of (kEa _ _)) | (go_at_call 13; with_reducible refine Calls.grown_of (kEm _ _)) | (go_at_call 14; with_reducible refine Calls.grown_of (kHa _ _)) | (go_at_call 14; with_reducible refine Calls.grown_of (kHm _ _)) | (go_at_call 12; with_reducible refine Calls.grown_of (kRa _ _))))
        refine wpQuiet_nil ?_
        intro Y hw'
        obtain ⟨⟨nq, osq⟩, hw''⟩ := hw'
        have g6 : Grows w4 Y := ⟨nq, osq, hw''⟩
        clear hw''
        have y0 := g6.cell a0
        have y1 := g6.cell a1'
        have y2 := g6.cell b0
        have y3 := g6.cell b1'
        have kP := refparts_any ((Y.alloc (.cells #[.int .i64 b1, .int .i64 b2] 23)).alloc (.cells #[.int .i64 a1, .int .i64 a2] 23)) _ _ [(b1, b2)] [(a1, a2)] ((one_rds Y (b1, b2) _ rfl).below ((Below.refl _ _).alloc (Nat.le_refl _) _)) (one_rds _ (a1, a2) _ rfl) (by simp)
        rw [show (Y.alloc (.cells #[.int .i64 b1, .int .i64 b2] 23)).heap.size = Y.heap.size + 1 by simp] at kP
        have x0 := cell_grow y0 (.cells #[.int .i64 b1, .int .i64 b2] 23)
        have x1 := cell_grow y1 (.cells #[.int .i64 b1, .int .i64 b2] 23)
        have HYB : Hid (Below w.heap.size w Y) := HB4.out.trans (g6.below.mono HB4.out.size)
        have HY2 : Hid (Grows Y ((Y.alloc (.cells #[.int .i64 b1, .int .i64 b2] 23)).alloc (.cells #[.int .i64 a1, .int .i64 a2] 23))) := (Grows.alloc _ _).trans (Grows.alloc _ _)
        clear g6 kEa kEm kHa kHm kRa a0 a1' b0 b1'
        go_wp2_with fail
        refine kP.mono ?_
        rintro e w7 ⟨v7, rfl, r7, b7⟩
        have bY7 : Below Y.heap.size Y w7 := HY2.out.below.trans (b7.mono HY2.out.below.size)
        have z0 : w7.cell? ⟨w.heap.size, 0, none⟩ = some (.int .i64 a1) := by rw [bY7.cell (World.block_lt_of_cell? _ _ y0)]; exact y0
        have z1 : w7.cell? ⟨w.heap.size, 1, none⟩ = some (.int .i64 a2) := by rw [bY7.cell (World.block_lt_of_cell? _ _ y1)]; exact y1
        have z2 : w7.cell? ⟨w.heap.size + 1, 0, none⟩ = some (.int .i64 b1) := by rw [bY7.cell (World.block_lt_of_cell? _ _ y2)]; exact y2
        have z3 : w7.cell? ⟨w.heap.size + 1, 1, none⟩ = some (.int .i64 b2) := by rw [bY7.cell (World.block_lt_of_cell? _ _ y3)]; exact y3
        have kC := covers_any w7 (a1, a2) (b1, b2)
        have HCp := cov_parts (a1, a2) (b1, b2)
        obtain ⟨aL, nL, cL, rfl⟩ := r7.sl
        have hnL := r7.at.1
        rw [HCp, ← hnL] at kC
        have HB7 : Hid (Below w.heap.size w w7) := HYB.out.trans (bY7.mono HYB.out.size)
        clear kP r7 b7 bY7 y0 y1 y2 y3 x0 x1 hnL HCp
        by_cases hL : nL = 0
        · have hLb : decide (nL = 0) = true := by simp [hL]
          have hLz : ((nL : Int) == 0) = true := by simp [hL]
          rw [hLb] at kC
          clear hLb hL
          go_wp2_with fail
          refine kC.mono ?_
          rintro e w8 ⟨rfl, g8⟩
          have HB8 : Hid (Below w.heap.size w w8) := HB7.out.trans (g8.below.mono HB7.out.size)
          clear g8 kC
          go_wp2_with fail
          go_ret
          exact ⟨rfl, HB8.out⟩
        · have hLb : decide (nL = 0) = false := by simp [hL]
          have hLz : ((nL : Int) == 0) = false := by simp [hL]
          rw [hLb] at kC
          clear hLb
          go_wp2_with fail
          refine kC.mono ?_
          rintro e w8 ⟨rfl, g8⟩
          have HB8 : Hid (Below w.heap.size w w8) := HB7.out.trans (g8.below.mono HB7.out.size)
          clear g8 kC
          go_wp2_with fail
          go_ret
          exact ⟨rfl, HB8.out⟩
    | true =>
      go_wp2_with fail
      refine (krb _).mono ?_
      rintro e w4 ⟨rfl, g4⟩
      have HB4 : Hid (Below w.heap.size w w4) := HB3.out.trans (g4.below.mono HB3.out.size)
      have a0 := g4.cell s0
      have a1' := g4.cell s1
      have b0 := g4.cell s2
      have b1' := g4.cell s3
      have a0' := fun nq os => cell_gr a0 nq os
      have a1'' := fun nq os => cell_gr a1' nq os
      have b0' := fun nq os => cell_gr b0 nq os
      have b1'' := fun nq os => cell_gr b1' nq os
      have m0 := g4.cell s4
      have m1 := g4.cell s5
      have m0' := fun nq os => cell_gr m0 nq os
      have m1' := fun nq os => cell_gr m1 nq os
      have kEa : ∀ nq os, Calls Try.prog 13 #[.agg #[.int .i64 a1, .int .i64 a2]] (grow (w4.drewN nq) os) fun e w' => e = .returned (.bool (decide (a1 ≥ a2))) ∧ ∃ q os', w' = grow ((grow (w4.drewN nq) os).drewN q) os' := fun nq os => kea _
      have kEm : ∀ nq os, Calls Try.prog 13 #[.agg #[.int .i64 X1, .int .i64 X2]] (grow (w4.drewN nq) os) fun e w' => e = .returned (.bool E) ∧ ∃ q os', w' = grow ((grow (w4.drewN nq) os).drewN q) os' := fun nq os => kem _
      have kHa : ∀ nq os, Calls Try.prog 14 #[.agg #[.int .i64 a1, .int .i64 a2], .int .i64 t] (grow (w4.drewN nq) os) fun e w' => e = .returned (.bool true) ∧ ∃ q os', w' = grow ((grow (w4.drewN nq) os).drewN q) os' := fun nq os => kha _
      have kRa : ∀ nq os, Calls Try.prog 12 #[.agg #[.int .i64 a1, .int .i64 a2], .int .i64 t] (grow (w4.drewN nq) os) fun e w' => e = .returned (.bool true) ∧ ∃ q os', w' = grow ((grow (w4.drewN nq) os).drewN q) os' := fun nq os => kra _
      have kHm : ∀ nq os, Calls Try.prog 14 #[.agg #[.int .i64 X1, .int .i64 X2], .int .i64 t] (grow (w4.drewN nq) os) fun e w' => e = .returned (.bool true) ∧ ∃ q os', w' = grow ((grow (w4.drewN nq) os).drewN q) os' := fun nq os => khm _
      clear m0 m1 kea kem kha kra khm krb krb' s0 s1 s2 s3 s4 s5
      clear g4
      cases E with
      | true =>
        have hz := HME.out rfl
        simp only [Prod.mk.injEq] at hz
        obtain ⟨rfl, rfl⟩ := hz
        go_wp2_with fail
        refine wp_region_quiet_grown (by assumption) (by kernel_rfl) ?_
        repeat (go_big_quiet_step (first | (go_at_call 13; with_reducible refine Calls.grown_of (kEa _ _)) | (go_at_call 13; with_reducible refine Calls.grown_of (kEm _ _)) | (go_at_call 14; with_reducible refine Calls.grown_of (kHa _ _)) | (go_at_call 14; with_reducible refine Calls.grown_of (kHm _ _)) | (go_at_call 12; with_reducible refine Calls.grown_of (kRa _ _))))
        refine wpQuiet_nil ?_
        intro Y hw'
        obtain ⟨⟨nq, osq⟩, hw''⟩ := hw'
        have g6 : Grows w4 Y := ⟨nq, osq, hw''⟩
        clear hw''
        have y0 := g6.cell a0
        have y1 := g6.cell a1'
        have y2 := g6.cell b0
        have y3 := g6.cell b1'
        have kP := refparts_any ((Y.alloc (.cells #[.int .i64 b1, .int .i64 b2] 23)).alloc (.cells #[.int .i64 a1, .int .i64 a2] 23)) _ _ [(b1, b2)] [(a1, a2)] ((one_rds Y (b1, b2) _ rfl).below ((Below.refl _ _).alloc (Nat.le_refl _) _)) (one_rds _ (a1, a2) _ rfl) (by simp)
        rw [show (Y.alloc (.cells #[.int .i64 b1, .int .i64 b2] 23)).heap.size = Y.heap.size + 1 by simp] at kP
        have x0 := cell_grow y0 (.cells #[.int .i64 b1, .int .i64 b2] 23)
        have x1 := cell_grow y1 (.cells #[.int .i64 b1, .int .i64 b2] 23)
        have HYB : Hid (Below w.heap.size w Y) := HB4.out.trans (g6.below.mono HB4.out.size)
        have HY2 : Hid (Grows Y ((Y.alloc (.cells #[.int .i64 b1, .int .i64 b2] 23)).alloc (.cells #[.int .i64 a1, .int .i64 a2] 23))) := (Grows.alloc _ _).trans (Grows.alloc _ _)
        clear g6 kEa kEm kHa kHm kRa a0 a1' b0 b1'
        go_wp2_with fail
        refine kP.mono ?_
        rintro e w7 ⟨v7, rfl, r7, b7⟩
        have bY7 : Below Y.heap.size Y w7 := HY2.out.below.trans (b7.mono HY2.out.below.size)
        have z0 : w7.cell? ⟨w.heap.size, 0, none⟩ = some (.int .i64 a1) := by rw [bY7.cell (World.block_lt_of_cell? _ _ y0)]; exact y0
        have z1 : w7.cell? ⟨w.heap.size, 1, none⟩ = some (.int .i64 a2) := by rw [bY7.cell (World.block_lt_of_cell? _ _ y1)]; exact y1
        have z2 : w7.cell? ⟨w.heap.size + 1, 0, none⟩ = some (.int .i64 b1) := by rw [bY7.cell (World.block_lt_of_cell? _ _ y2)]; exact y2
        have z3 : w7.cell? ⟨w.heap.size + 1, 1, none⟩ = some (.int .i64 b2) := by rw [bY7.cell (World.block_lt_of_cell? _ _ y3)]; exact y3
        have kC := covers_any w7 (a1, a2) (b1, b2)
        have HCp := cov_parts (a1, a2) (b1, b2)
        obtain ⟨aL, nL, cL, rfl⟩ := r7.sl
        have hnL := r7.at.1
        rw [HCp, ← hnL] at kC
        have HB7 : Hid (Below w.heap.size w w7) := HYB.out.trans (bY7.mono HYB.out.size)
        clear kP r7 b7 bY7 y0 y1 y2 y3 x0 x1 hnL HCp
        by_cases hL : nL = 0
        · have hLb : decide (nL = 0) = true := by simp [hL]
          have hLz : ((nL : Int) == 0) = true := by simp [hL]
          rw [hLb] at kC
          clear hLb hL
          go_wp2_with fail
          refine kC.mono ?_
          rintro e w8 ⟨rfl, g8⟩
          have HB8 : Hid (Below w.heap.size w w8) := HB7.out.trans (g8.below.mono HB7.out.size)
          clear g8 kC
          go_wp2_with fail
          go_ret
          exact ⟨rfl, HB8.out⟩
        · have hLb : decide (nL = 0) = false := by simp [hL]
          have hLz : ((nL : Int) == 0) = false := by simp [hL]
          rw [hLb] at kC
          clear hLb
          go_wp2_with fail
          refine kC.mono ?_
          rintro e w8 ⟨rfl, g8⟩
          have HB8 : Hid (Below w.heap.size w w8) := HB7.out.trans (g8.below.mono HB7.out.size)
          clear g8 kC
          go_wp2_with fail
          go_ret
          exact ⟨rfl, HB8.out⟩
      | false =>
        go_wp2_with fail
        refine wp_region_quiet_grown (by assumption) (by kernel_rfl) ?_
        repeat (go_big_quiet_step (first | (go_at_call 13; with_reducible refine Calls.grown_of (kEa _ _)) | (go_at_call 13; with_reducible refine Calls.grown_of (kEm _ _)) | (go_at_call 14; with_reducible refine Calls.grown_of (kHa _ _)) | (go_at_call 14; with_reducible refine Calls.grown_of (kHm _ _)) | (go_at_call 12; with_reducible refine Calls.grown_of (kRa _ _))))
        refine wpQuiet_nil ?_
        intro Y hw'
        obtain ⟨⟨nq, osq⟩, hw''⟩ := hw'
        have g6 : Grows w4 Y := ⟨nq, osq, hw''⟩
        clear hw''
        have y0 := g6.cell a0
        have y1 := g6.cell a1'
        have y2 := g6.cell b0
        have y3 := g6.cell b1'
        have kP := refparts_any ((Y.alloc (.cells #[.int .i64 b1, .int .i64 b2] 23)).alloc (.cells #[.int .i64 a1, .int .i64 a2] 23)) _ _ [(b1, b2)] [(a1, a2)] ((one_rds Y (b1, b2) _ rfl).below ((Below.refl _ _).alloc (Nat.le_refl _) _)) (one_rds _ (a1, a2) _ rfl) (by simp)
        rw [show (Y.alloc (.cells #[.int .i64 b1, .int .i64 b2] 23)).heap.size = Y.heap.size + 1 by simp] at kP
        have x0 := cell_grow y0 (.cells #[.int .i64 b1, .int .i64 b2] 23)
        have x1 := cell_grow y1 (.cells #[.int .i64 b1, .int .i64 b2] 23)
        have HYB : Hid (Below w.heap.size w Y) := HB4.out.trans (g6.below.mono HB4.out.size)
        have HY2 : Hid (Grows Y ((Y.alloc (.cells #[.int .i64 b1, .int .i64 b2] 23)).alloc (.cells #[.int .i64 a1, .int .i64 a2] 23))) := (Grows.alloc _ _).trans (Grows.alloc _ _)
        clear g6 kEa kEm kHa kHm kRa a0 a1' b0 b1'
        go_wp2_with fail
        refine kP.mono ?_
        rintro e w7 ⟨v7, rfl, r7, b7⟩
        have bY7 : Below Y.heap.size Y w7 := HY2.out.below.trans (b7.mono HY2.out.below.size)
        have z0 : w7.cell? ⟨w.heap.size, 0, none⟩ = some (.int .i64 a1) := by rw [bY7.cell (World.block_lt_of_cell? _ _ y0)]; exact y0
        have z1 : w7.cell? ⟨w.heap.size, 1, none⟩ = some (.int .i64 a2) := by rw [bY7.cell (World.block_lt_of_cell? _ _ y1)]; exact y1
        have z2 : w7.cell? ⟨w.heap.size + 1, 0, none⟩ = some (.int .i64 b1) := by rw [bY7.cell (World.block_lt_of_cell? _ _ y2)]; exact y2
        have z3 : w7.cell? ⟨w.heap.size + 1, 1, none⟩ = some (.int .i64 b2) := by rw [bY7.cell (World.block_lt_of_cell? _ _ y3)]; exact y3
        have kC := covers_any w7 (a1, a2) (b1, b2)
        have HCp := cov_parts (a1, a2) (b1, b2)
        obtain ⟨aL, nL, cL, rfl⟩ := r7.sl
        have hnL := r7.at.1
        rw [HCp, ← hnL] at kC
        have HB7 : Hid (Below w.heap.size w w7) := HYB.out.trans (bY7.mono HYB.out.size)
        clear kP r7 b7 bY7 y0 y1 y2 y3 x0 x1 hnL HCp
        by_cases hL : nL = 0
        · have hLb : decide (nL = 0) = true := by simp [hL]
          have hLz : ((nL : Int) == 0) = true := by simp [hL]
          rw [hLb] at kC
          clear hLb hL
          go_wp2_with fail
          refine kC.mono ?_
          rintro e w8 ⟨rfl, g8⟩
          have HB8 : Hid (Below w.heap.size w w8) := HB7.out.trans (g8.below.mono HB7.out.size)
          clear g8 kC
          go_wp2_with fail
          go_ret
          exact ⟨rfl, HB8.out⟩
        · have hLb : decide (nL = 0) = false := by simp [hL]
          have hLz : ((nL : Int) == 0) = false := by simp [hL]
          rw [hLb] at kC
          clear hLb
          go_wp2_with fail
          refine kC.mono ?_
          rintro e w8 ⟨rfl, g8⟩
          have HB8 : Hid (Below w.heap.size w w8) := HB7.out.trans (g8.below.mono HB7.out.size)
          clear g8 kC
          go_wp2_with fail
          go_ret
          exact ⟨rfl, HB8.out⟩
end Go.Proofs.Ythijbpodkklcnaa
