/- Contracts of the law's plain functions: abs, seg, One, Ahead. -/
import Derived.Test.YtgbmigfamefenaaLkp
namespace Go.Proofs.Ytgbmigfamefenaa
open Go.Shelf Go.RowKit Go.Maps Go.Sort
set_option linter.unusedVariables false

def absN (n : Int) : Nat := (if n < 0 then (-(n + 1)) else n).toNat
theorem absN_lt {n : Int} (h1 : -9223372036854775808 ≤ n) (h2 : n ≤ 9223372036854775807) : absN n ≤ 9223372036854775807 := by unfold absN; split <;> omega
theorem abs_any (w : World) (n : Int) (h1 : -9223372036854775808 ≤ n) (h2 : n ≤ 9223372036854775807) : Calls Try.prog 15 #[.int .i64 n] w fun e w' => e = .returned (.int .i64 (absN n : Int)) ∧ w' = w := by
  by_cases hn : n < 0
  · have hw1 : wrap64 (n + 1) = n + 1 := by rw [← IntWalk.i64_left, IntKind.wrap_i64]; omega
    have hw2 : wrap64 (-(n + 1)) = -(n + 1) := by rw [← IntWalk.i64_left, IntKind.wrap_i64]; omega
    have HE : Hid ((absN n : Int) = -(n + 1)) := by apply hide; unfold absN; rw [if_pos hn]; omega
    go_enter Try.func15, Try.ntmps15
    go_wp2_with fail
    go_ret
    exact ⟨by rw [HE.out]; rfl, rfl⟩
  · have HE : Hid ((absN n : Int) = n) := by apply hide; unfold absN; rw [if_neg hn]; omega
    go_enter Try.func15, Try.ntmps15
    go_wp2_with fail
    go_ret
    exact ⟨by rw [HE.out]; rfl, rfl⟩
/-- The numbers of a raw segment are int64s. -/
structure B5 (g : Sg) : Prop where
  k : B3 g.1
  p1 : -9223372036854775808 ≤ g.2.1
  p2 : g.2.1 ≤ 9223372036854775807
  c1 : -9223372036854775808 ≤ g.2.2
  c2 : g.2.2 ≤ 9223372036854775807
/-- The segment of raw numbers. -/
def sgF (g : Sg) : Sg := (((absN g.1.1 : Int) % 12, (absN g.1.1 : Int) % 12 + 1 + (absN g.1.2.1 : Int) % 8, (absN g.1.2.2 : Int) % 4), (absN g.2.1 : Int) % 3, ((absN g.1.2.2 : Int) % 4 + (absN g.1.1 : Int) % 12) % 3)
set_option maxRecDepth 100000 in
set_option maxHeartbeats 3200000 in
theorem seg_any (w : World) (g : Sg) (h : B5 g) : Calls Try.prog 17 #[.agg #[.int .i64 g.1.1, .int .i64 g.1.2.1, .int .i64 g.1.2.2, .int .i64 g.2.1, .int .i64 g.2.2]] w fun e w' => e = .returned (.agg #[.int .i64 (sgF g).1.1, .int .i64 (sgF g).1.2.1, .int .i64 (sgF g).1.2.2, .int .i64 (sgF g).2.1, .int .i64 (sgF g).2.2]) ∧ Grows w w' := by
  have mixed : Try.prog.follows .mixedOrders = true := by kernel_rfl
  obtain ⟨⟨a, b, c⟩, p, q⟩ := g
  have hb := h.k
  have kA := fun w' => abs_any w' a hb.a1 hb.a2
  have kB := fun w' => abs_any w' b hb.b1 hb.b2
  have kC := fun w' => abs_any w' c hb.c1 hb.c2
  have kP := fun w' => abs_any w' p h.p1 h.p2
  have la := absN_lt hb.a1 hb.a2
  have lb := absN_lt hb.b1 hb.b2
  have lc := absN_lt hb.c1 hb.c2
  have lp := absN_lt h.p1 h.p2
  unfold sgF
  simp only at kA kB kC kP la lb lc lp ⊢
  obtain ⟨A, hA⟩ : ∃ A, A = absN a := ⟨_, rfl⟩
  obtain ⟨B, hB⟩ : ∃ B, B = absN b := ⟨_, rfl⟩
  obtain ⟨C, hC⟩ : ∃ C, C = absN c := ⟨_, rfl⟩
  obtain ⟨D, hD⟩ : ∃ D, D = absN p := ⟨_, rfl⟩
  rw [← hA] at kA la ⊢
  rw [← hB] at kB lb ⊢
  rw [← hC] at kC lc ⊢
  rw [← hD] at kP lp ⊢
  clear hA hB hC hD h hb
  obtain ⟨W, hW⟩ : ∃ W, W = (w.alloc (.cells #[.int .i64 a, .int .i64 b, .int .i64 c, .int .i64 p, .int .i64 q] 32)).alloc (.cells #[.int .i64 0, .int .i64 0, .int .i64 0, .int .i64 0, .int .i64 0] 32) := ⟨_, rfl⟩
  have HG : Hid (Grows w W) := by apply hide; rw [hW]; exact (Grows.alloc _ _).trans (Grows.alloc _ _)
  have hs : (w.alloc (.cells #[.int .i64 a, .int .i64 b, .int .i64 c, .int .i64 p, .int .i64 q] 32)).heap.size = w.heap.size + 1 := by simp
  have hx : BxA W w.heap.size 32 #[.int .i64 a, .int .i64 b, .int .i64 c, .int .i64 p, .int .i64 q] := by
    rw [hW]
    unfold BxA
    rw [Below.heap_alloc _ _ _ (by rw [hs]; omega)]
    exact BxA.new _ _ _
  have hy : BxA W (w.heap.size + 1) 32 #[.int .i64 0, .int .i64 0, .int .i64 0, .int .i64 0, .int .i64 0] := by
    rw [hW, ← hs]
    exact BxA.new _ _ _
  have c0 := hx.cell 0 _ rfl
  have c1 := hx.cell 1 _ rfl
  have c2 := hx.cell 2 _ rfl
  have c3 := hx.cell 3 _ rfl
  have HY := hide hy
  have HW := hide hW
  clear hW hx hy hs
  go_enter Try.func17, Try.ntmps17
  go_upto_region 1 with fail
  rw [← HW.out]
  go_wp2_with fail
  refine (kA _).mono ?_
  rintro e w' ⟨rfl, rfl⟩
  go_wp2_with fail
  refine (kC _).mono ?_
  rintro e w' ⟨rfl, rfl⟩
  have x0 := fun nq os => gro_cell c0 nq os
  have x1 := fun nq os => gro_cell c1 nq os
  have x2 := fun nq os => gro_cell c2 nq os
  have x3 := fun nq os => gro_cell c3 nq os
  have j2 : ∀ nq os, _ := fun nq os => grown_at (w := w') (fun w' => (kB w').mono fun _ _ ⟨h1, h2⟩ => ⟨h1, h2 ▸ Grows.refl _⟩) nq os
  have j4 : ∀ nq os, _ := fun nq os => grown_at (w := w') (fun w' => (kP w').mono fun _ _ ⟨h1, h2⟩ => ⟨h1, h2 ▸ Grows.refl _⟩) nq os
  clear kA kB kC kP c0 c1 c2 c3
  go_upto_region 3 with fail
  refine wp_region_first_grown 20 1 (by assumption) rfl (by kernel_rfl) (by kernel_rfl) (by kernel_rfl) (by kernel_rfl) ?_
  simp only [List.take_succ_cons, List.take_zero]
  repeat (go_big_quiet_step (first | (go_at_call 15; first | (with_reducible refine Calls.grown_of (j2 _ _)) | (with_reducible refine Calls.grown_of (j4 _ _)))))
  refine wpQuiet_nil ?_
  intro V hw'
  obtain ⟨⟨nq, osq⟩, hw''⟩ := hw'
  have hGV : Grows w' V := by rw [hw'']; exact ⟨nq, osq, rfl⟩
  have hyV : BxA V (w.heap.size + 1) 32 #[.int .i64 0, .int .i64 0, .int .i64 0, .int .i64 0, .int .i64 0] := HY.out.up hGV.below
  have HGV : Hid (Grows w V) := HG.out.trans hGV
  have hst := hyV
  have q0 := hyV.cell 0 _ rfl
  have q1 := hyV.cell 1 _ rfl
  have q2 := hyV.cell 2 _ rfl
  have q3 := hyV.cell 3 _ rfl
  have q4 := hyV.cell 4 _ rfl
  have f0 := hyV.free 0
  have f1 := hyV.free 1
  have f2 := hyV.free 2
  have f3 := hyV.free 3
  have f4 := hyV.free 4
  have hlv : w.heap.size ≤ w.heap.size + 1 := by omega
  clear hw'' x0 x1 x2 x3 j2 j4 hGV
  refine wpAny_ready (rs := [20]) (by kernel_rfl) (by simp) ?_
  refine AllReady.cons rfl (fun K hK => ?_) AllReady.nil
  go_simp
  refine hK _ _ ?_
  clear hK K
  refine wpAny_done (by kernel_rfl) ?_ _
  go_wp2_with fail
  obtain ⟨Y, hY⟩ : ∃ Y, Y = (((((V.setCell ⟨w.heap.size + 1, 0, none⟩ (.int .i64 ((A : Int) % 12))).setCell ⟨w.heap.size + 1, 1, none⟩ (.int .i64 ((A : Int) % 12 + 1 + (B : Int) % 8))).setCell ⟨w.heap.size + 1, 2, none⟩ (.int .i64 ((C : Int) % 4))).setCell ⟨w.heap.size + 1, 3, none⟩ (.int .i64 ((D : Int) % 3))).setCell ⟨w.heap.size + 1, 4, none⟩ (.int .i64 (((C : Int) % 4 + (A : Int) % 12) % 3))) := ⟨_, rfl⟩
  rw [← hY]
  have hyY : BxA Y (w.heap.size + 1) 32 #[.int .i64 ((A : Int) % 12), .int .i64 ((A : Int) % 12 + 1 + (B : Int) % 8), .int .i64 ((C : Int) % 4), .int .i64 ((D : Int) % 3), .int .i64 (((C : Int) % 4 + (A : Int) % 12) % 3)] := by
    rw [hY]
    exact ((((hyV.set 0 _).set 1 _).set 2 _).set 3 _).set 4 _
  have hGY : Grows w Y := by
    rw [hY]
    exact ((((HGV.out.set _ hlv).set _ hlv).set _ hlv).set _ hlv).set _ hlv
  have z0 := hyY.cell 0 _ rfl
  have z1 := hyY.cell 1 _ rfl
  have z2 := hyY.cell 2 _ rfl
  have z3 := hyY.cell 3 _ rfl
  have z4 := hyY.cell 4 _ rfl
  refine bodyPost_ret (by simp [results, Try.results17, go_sem, z0, z1, z2, z3, z4]; try rfl) rfl ?_
  exact ⟨rfl, hGY⟩
set_option maxHeartbeats 1600000 in
theorem one_any (w : World) (a b : Sg) : Calls Try.prog 14 #[.agg #[.int .i64 a.1.1, .int .i64 a.1.2.1, .int .i64 a.1.2.2, .int .i64 a.2.1, .int .i64 a.2.2], .agg #[.int .i64 b.1.1, .int .i64 b.1.2.1, .int .i64 b.1.2.2, .int .i64 b.2.1, .int .i64 b.2.2]] w fun e w' => e = .returned (.bool (decide (a.1 = b.1))) ∧ Grows w w' := by
  obtain ⟨⟨a1, a2, a3⟩, a4, a5⟩ := a
  obtain ⟨⟨b1, b2, b3⟩, b4, b5⟩ := b
  simp only
  have HG : Hid (Grows w ((w.alloc (.cells #[.int .i64 a1, .int .i64 a2, .int .i64 a3, .int .i64 a4, .int .i64 a5] 32)).alloc (.cells #[.int .i64 b1, .int .i64 b2, .int .i64 b3, .int .i64 b4, .int .i64 b5] 32))) := (Grows.alloc _ _).trans (Grows.alloc _ _)
  by_cases h1 : a1 = b1
  · subst h1
    by_cases h2 : a2 = b2
    · subst h2
      by_cases h3 : a3 = b3
      · subst h3
        rw [decide_eq_true rfl]
        go_enter Try.func14, Try.ntmps14
        go_wp2_with fail
        go_ret
        exact ⟨rfl, HG.out⟩
      · rw [decide_eq_false (fun q => h3 (by cases q; rfl))]
        have hz : (a3 == b3) = false := by simpa using h3
        go_enter Try.func14, Try.ntmps14
        go_wp2_with fail
        go_ret
        exact ⟨rfl, HG.out⟩
    · rw [decide_eq_false (fun q => h2 (by cases q; rfl))]
      have hz : (a2 == b2) = false := by simpa using h2
      go_enter Try.func14, Try.ntmps14
      go_wp2_with fail
      go_ret
      exact ⟨rfl, HG.out⟩
  · rw [decide_eq_false (fun q => h1 (by cases q; rfl))]
    have hz : (a1 == b1) = false := by simpa using h1
    go_enter Try.func14, Try.ntmps14
    go_wp2_with fail
    go_ret
    exact ⟨rfl, HG.out⟩
set_option maxHeartbeats 1600000 in
theorem ahead_any (w : World) (a b : Sg) : Calls Try.prog 12 #[.agg #[.int .i64 a.1.1, .int .i64 a.1.2.1, .int .i64 a.1.2.2, .int .i64 a.2.1, .int .i64 a.2.2], .agg #[.int .i64 b.1.1, .int .i64 b.1.2.1, .int .i64 b.1.2.2, .int .i64 b.2.1, .int .i64 b.2.2]] w fun e w' => e = .returned (.bool (decide (Ahd a.1 b.1))) ∧ Grows w w' := by
  obtain ⟨⟨a1, a2, a3⟩, a4, a5⟩ := a
  obtain ⟨⟨b1, b2, b3⟩, b4, b5⟩ := b
  simp only
  have HG : Hid (Grows w ((w.alloc (.cells #[.int .i64 a1, .int .i64 a2, .int .i64 a3, .int .i64 a4, .int .i64 a5] 32)).alloc (.cells #[.int .i64 b1, .int .i64 b2, .int .i64 b3, .int .i64 b4, .int .i64 b5] 32))) := (Grows.alloc _ _).trans (Grows.alloc _ _)
  by_cases h3 : a3 = b3
  · subst h3
    by_cases h1 : a1 = b1
    · subst h1
      have he : decide (Ahd (a1, a2, a3) (a1, b2, a3)) = decide (a2 < b2) := by rw [decide_eq_decide]; show (a3 < a3 ∨ (a3 = a3 ∧ (a1 < a1 ∨ (a1 = a1 ∧ a2 < b2)))) ↔ _; omega
      rw [he]
      go_enter Try.func12, Try.ntmps12
      go_wp2_with fail
      go_ret
      exact ⟨rfl, HG.out⟩
    · have he : decide (Ahd (a1, a2, a3) (b1, b2, a3)) = decide (b1 < a1) := by rw [decide_eq_decide]; show (a3 < a3 ∨ (a3 = a3 ∧ (b1 < a1 ∨ (b1 = a1 ∧ a2 < b2)))) ↔ _; omega
      rw [he]
      have hz : (a1 == b1) = false := by simpa using h1
      have hz2 : (a1 != b1) = true := by simpa using h1
      go_enter Try.func12, Try.ntmps12
      go_wp2_with fail
      go_ret
      exact ⟨rfl, HG.out⟩
  · have he : decide (Ahd (a1, a2, a3) (b1, b2, b3)) = decide (b3 < a3) := by rw [decide_eq_decide]; show (b3 < a3 ∨ (b3 = a3 ∧ (b1 < a1 ∨ (b1 = a1 ∧ a2 < b2)))) ↔ _; omega
    rw [he]
    have hz : (a3 == b3) = false := by simpa using h3
    have hz2 : (a3 != b3) = true := by simpa using h3
    go_enter Try.func12, Try.ntmps12
    go_wp2_with fail
    go_ret
    exact ⟨rfl, HG.out⟩
end Go.Proofs.Ytgbmigfamefenaa
