/- container/heap: down and Pop over a row of numbers. -/
import Derived.Test.YtnkllgpibmofiaaHed
namespace Go.Proofs.Ytnkllgpibmofiaa
open Go.RowKit
set_option linter.unusedVariables false

/-- The lesser child. -/
theorem child (l' : List Nat) (n i j1 j2 : Nat) (p1 : Bool) (e1 : j1 = 2 * i + 1) (e2 : j2 = 2 * i + 2) (hp1 : p1 = decide (gv l' j2 < gv l' j1)) (hj1 : j1 < n) : ∃ j : Nat, j < n ∧ 0 < j ∧ (j - 1) / 2 = i ∧ (∀ k, 0 < k → k < n → (k - 1) / 2 = i → gv l' j ≤ gv l' k) ∧ ((j2 < n ∧ p1 = true ∧ j2 = j) ∨ (j2 < n ∧ p1 = false ∧ j1 = j) ∨ (¬ j2 < n ∧ j1 = j)) := by
  have hk : ∀ k, 0 < k → (k - 1) / 2 = i → k = j1 ∨ k = j2 := fun k h1 h2 => by omega
  by_cases h2 : j2 < n
  · cases p1 with
    | true =>
      have : gv l' j2 < gv l' j1 := of_decide_eq_true hp1.symm
      refine ⟨j2, h2, by omega, by omega, fun k h1 h3 h4 => ?_, .inl ⟨h2, rfl, rfl⟩⟩
      rcases hk k h1 h4 with rfl | rfl <;> omega
    | false =>
      have : ¬ gv l' j2 < gv l' j1 := of_decide_eq_false hp1.symm
      refine ⟨j1, by omega, by omega, by omega, fun k h1 h3 h4 => ?_, .inr (.inl ⟨h2, rfl, rfl⟩)⟩
      rcases hk k h1 h4 with rfl | rfl <;> omega
  · refine ⟨j1, by omega, by omega, by omega, fun k h1 h3 h4 => ?_, .inr (.inr ⟨h2, rfl⟩)⟩
    rcases hk k h1 h4 with rfl | rfl <;> omega
set_option maxRecDepth 20000 in
set_option maxHeartbeats 4000000 in
theorem down_any (w : World) (g : Nat) (c0 v : Value) (l0 l : List Nat) (n : Nat) (h : Hb w g c0 v l) (hu : DnI l0 l n 0) (hl : l0.length = n + 1) (hs : n ≤ 1000000) :
    Calls Try.prog 76 #[ifR g, .int .i64 0, .int .i64 (n : Int)] w fun e w' => (∃ bb, e = .returned (.bool bb)) ∧ ∃ l' i, Hb w' g c0 v l' ∧ HpN l' n ∧ DnI l0 l' n i ∧ Fr (fun i => v.ownBlock = some i) w w' := by
  have H := hide h
  have HU := hide hu
  have HL := hide hl
  clear h hu hl
  go_enter Try.func76, Try.ntmps76
  go_wp2_with fail
  go_loopg [7, 8, 9, 10] n (fun kx v7 _ _ _ wr => ∃ (i : Nat) (l' : List Nat), v7 = .int .i64 (i : Int) ∧ i ≤ n ∧ n - i ≤ kx ∧ Hid (Hb wr g c0 v l' ∧ DnI l0 l' n i ∧ Fr (fun i => v.ownBlock = some i) w wr))
  case atStart => exact ⟨0, l, rfl, Nat.zero_le _, by omega, H.out, HU.out, Fr.refl _ _⟩
  case round =>
    obtain ⟨i, l', rfl, hin, hkx, HI⟩ := hrel
    have HLL : Hid (l'.length = n + 1) := by apply hide; rw [HI.out.2.1.p.length_eq]; exact HL.out
    obtain ⟨b, c, rfl, hlc, hcm, hbl⟩ : ∃ b c, v = .slice (some ⟨b, 0, none⟩) (n + 1) c ∧ n + 1 ≤ c ∧ c ≤ maxLen ∧ b < wr.heap.size := by
      rcases HI.out.1.o.sh with ⟨_, e⟩ | ⟨b, c, h1, h2, h3, h4⟩
      · have := HLL.out; rw [e] at this; simp at this
      · rw [HLL.out] at h1 h2; exact ⟨b, c, h1, h2, h3, h4⟩
    by_cases h0 : n ≤ 2 * i + 1
    · have h0z : (n : Int) ≤ 2 * (i : Int) + 1 := by omega
      go_wp2_with fail
      go_ret
      exact ⟨⟨_, rfl⟩, l', i, HI.out.1, HI.out.2.1.done (fun k h1 h2 h3 => by omega), HI.out.2.1, HI.out.2.2⟩
    · have h0z : 2 * (i : Int) + 1 < (n : Int) := by omega
      have kL : ∀ p q, p < n + 1 → q < n + 1 → ∀ m, Calls Try.prog 114 #[.slice (some ⟨b, 0, none⟩) (n + 1) c, .int .i64 ((p : Nat) : Int), .int .i64 ((q : Nat) : Int)] (wr.drewN m) fun e w' => e = .returned (.bool (decide (gv l' p < gv l' q))) ∧ ∃ k, w' = wr.drewN k := fun p q hp hq m => by
        have := less_any (wr.drewN m) b c l' (by have := (HI.out.1.drewN m).o; rw [HLL.out]; exact this) hcm (by rw [HLL.out]; exact hlc) p q (by rw [HLL.out]; exact hp) (by rw [HLL.out]; exact hq)
        rw [HLL.out] at this
        refine this.mono ?_
        rintro e w1 ⟨h1, k, h2⟩
        exact ⟨h1, m + k, by rw [h2]; exact World.drewN_drewN _ _ _⟩
      obtain ⟨j1, hj1⟩ : ∃ j1 : Nat, j1 = 2 * i + 1 := ⟨_, rfl⟩
      obtain ⟨j2, hj2⟩ : ∃ j2 : Nat, j2 = 2 * i + 2 := ⟨_, rfl⟩
      have q1 : 2 * (i : Int) + 1 = (j1 : Int) := by omega
      have q2 : (j1 : Int) + 1 = (j2 : Int) := by omega
      have q3 : (j1 : Int) < (n : Int) := by omega
      have q4 : ¬ (j1 : Int) < 0 := by omega
      have mL0 := mLess' HI.out.1
      have HJ1 := hide hj1
      have HJ2 := hide hj2
      obtain ⟨p1, hp1⟩ : ∃ p, p = decide (gv l' j2 < gv l' j1) := ⟨_, rfl⟩
      have kA := fun hj => kL j2 j1 hj (by omega) 0
      rw [← hp1] at kA
      have HP1 := hide hp1
      have HKL := hide kL
      clear kL h0 h0z hp1 hj1 hj2
      obtain ⟨j, hjn, hj0, hji, hjm, hcase⟩ := child l' n i j1 j2 p1 HJ1.out HJ2.out HP1.out (by omega)
      obtain ⟨p2, hp2⟩ : ∃ p, p = decide (gv l' j < gv l' i) := ⟨_, rfl⟩
      have kB := fun m => HKL.out j i (by omega) (by omega) m
      rw [← hp2] at kB
      have HP2 := hide hp2
      have HJM := hide hjm
      have HJI := hide hji
      have hin1 : i < n := by omega
      have hij : ¬ (i : Int) = (j : Int) := by omega
      clear hp2 hjm hji
      cases p2 with
      | false =>
        rcases hcase with ⟨h2, rfl, rfl⟩ | ⟨h2, rfl, rfl⟩ | ⟨h2, rfl⟩
        · have h2z : (j2 : Int) < (n : Int) := by omega
          have kA := kA (by omega)
          go_wp2_with fail
          go_at_call 114
          refine kA.mono ?_
          rintro e w1 ⟨he1, k1, hw1⟩
          subst he1
          have HW1 := hide hw1
          have hH1 := HI.out.1.drewN k1
          rw [← hw1] at hH1
          have mL1 := mLess' hH1
          have kB := kB k1
          rw [← hw1] at kB
          clear hH1 hw1 mL0 kA
          go_wp2_with fail
          go_at_call 114
          refine kB.mono ?_
          rintro e w2 ⟨he2, k2, hw2⟩
          subst he2
          have HW2 := hide hw2
          clear hw2
          go_wp2_with fail
          go_ret
          refine ⟨⟨_, rfl⟩, l', i, ?_, HI.out.2.1.done (fun k h1 h2 h3 => ?_), HI.out.2.1, ?_⟩
          · rw [HW2.out]; exact HI.out.1.drewN _
          · have := HJM.out k h1 h2 h3
            have := of_decide_eq_false HP2.out.symm
            omega
          · rw [HW2.out]; exact HI.out.2.2.drewN _
        · have h2z : (j2 : Int) < (n : Int) := by omega
          have kA := kA (by omega)
          go_wp2_with fail
          go_at_call 114
          refine kA.mono ?_
          rintro e w1 ⟨he1, k1, hw1⟩
          subst he1
          have HW1 := hide hw1
          have hH1 := HI.out.1.drewN k1
          rw [← hw1] at hH1
          have mL1 := mLess' hH1
          have kB := kB k1
          rw [← hw1] at kB
          clear hH1 hw1 mL0 kA
          go_wp2_with fail
          go_at_call 114
          refine kB.mono ?_
          rintro e w2 ⟨he2, k2, hw2⟩
          subst he2
          have HW2 := hide hw2
          clear hw2
          go_wp2_with fail
          go_ret
          refine ⟨⟨_, rfl⟩, l', i, ?_, HI.out.2.1.done (fun k h1 h2 h3 => ?_), HI.out.2.1, ?_⟩
          · rw [HW2.out]; exact HI.out.1.drewN _
          · have := HJM.out k h1 h2 h3
            have := of_decide_eq_false HP2.out.symm
            omega
          · rw [HW2.out]; exact HI.out.2.2.drewN _
        · have h2z : ¬ (j2 : Int) < (n : Int) := by omega
          have kB := kB 0
          go_wp2_with fail
          go_at_call 114
          refine kB.mono ?_
          rintro e w2 ⟨he2, k2, hw2⟩
          subst he2
          have HW2 := hide hw2
          clear hw2
          go_wp2_with fail
          go_ret
          refine ⟨⟨_, rfl⟩, l', i, ?_, HI.out.2.1.done (fun k h1 h2 h3 => ?_), HI.out.2.1, ?_⟩
          · rw [HW2.out]; exact HI.out.1.drewN _
          · have := HJM.out k h1 h2 h3
            have := of_decide_eq_false HP2.out.symm
            omega
          · rw [HW2.out]; exact HI.out.2.2.drewN _
      | true =>
        rcases hcase with ⟨h2, rfl, rfl⟩ | ⟨h2, rfl, rfl⟩ | ⟨h2, rfl⟩
        · have h2z : (j2 : Int) < (n : Int) := by omega
          have kA := kA (by omega)
          go_wp2_with fail
          go_at_call 114
          refine kA.mono ?_
          rintro e w1 ⟨he1, k1, hw1⟩
          subst he1
          have HW1 := hide hw1
          have hH1 := HI.out.1.drewN k1
          rw [← hw1] at hH1
          have mL1 := mLess' hH1
          have kB := kB k1
          rw [← hw1] at kB
          clear hH1 hw1 mL0 kA
          go_wp2_with fail
          go_at_call 114
          refine kB.mono ?_
          rintro e w2 ⟨he2, k2, hw2⟩
          subst he2
          have HW2 := hide hw2
          have hH2 := HI.out.1.drewN k2
          rw [← hw2] at hH2
          have mS := mSwap' hH2
          have kS := swap_any w2 b (n + 1) c l' hH2.o i j2 (by omega) (by omega)
          have HH2 := hide hH2
          clear hw2 hH2 kB
          go_wp2_with (go_at_call 115; refine kS.mono ?_; rintro e w3 ⟨he3, ho3, hg3⟩; subst he3; have HO3 := hide ho3; have HG3 := hide hg3; clear ho3 hg3)
          go_roundg (n - j2)
          case measure => have := HJI.out; omega
          case rel =>
            refine ⟨j2, swp l' i j2, rfl, Nat.le_of_lt hjn, Nat.le_refl _, HH2.out.swapped HO3.out HG3.out, HI.out.2.1.step hjn hj0 HJI.out (of_decide_eq_true HP2.out.symm) HJM.out, ?_⟩
            have hg := HG3.out
            rw [HW2.out] at hg
            exact (HI.out.2.2.drewN k2).trans (Fr.of_grown hg fun j hj => .inl (by cases hj; rfl)) (fun _ _ h => h)
        · have h2z : (j2 : Int) < (n : Int) := by omega
          have kA := kA (by omega)
          go_wp2_with fail
          go_at_call 114
          refine kA.mono ?_
          rintro e w1 ⟨he1, k1, hw1⟩
          subst he1
          have HW1 := hide hw1
          have hH1 := HI.out.1.drewN k1
          rw [← hw1] at hH1
          have mL1 := mLess' hH1
          have kB := kB k1
          rw [← hw1] at kB
          clear hH1 hw1 mL0 kA
          go_wp2_with fail
          go_at_call 114
          refine kB.mono ?_
          rintro e w2 ⟨he2, k2, hw2⟩
          subst he2
          have HW2 := hide hw2
          have hH2 := HI.out.1.drewN k2
          rw [← hw2] at hH2
          have mS := mSwap' hH2
          have kS := swap_any w2 b (n + 1) c l' hH2.o i j1 (by omega) (by omega)
          have HH2 := hide hH2
          clear hw2 hH2 kB
          go_wp2_with (go_at_call 115; refine kS.mono ?_; rintro e w3 ⟨he3, ho3, hg3⟩; subst he3; have HO3 := hide ho3; have HG3 := hide hg3; clear ho3 hg3)
          go_roundg (n - j1)
          case measure => have := HJI.out; omega
          case rel =>
            refine ⟨j1, swp l' i j1, rfl, Nat.le_of_lt hjn, Nat.le_refl _, HH2.out.swapped HO3.out HG3.out, HI.out.2.1.step hjn hj0 HJI.out (of_decide_eq_true HP2.out.symm) HJM.out, ?_⟩
            have hg := HG3.out
            rw [HW2.out] at hg
            exact (HI.out.2.2.drewN k2).trans (Fr.of_grown hg fun j hj => .inl (by cases hj; rfl)) (fun _ _ h => h)
        · have h2z : ¬ (j2 : Int) < (n : Int) := by omega
          have kB := kB 0
          go_wp2_with fail
          go_at_call 114
          refine kB.mono ?_
          rintro e w2 ⟨he2, k2, hw2⟩
          subst he2
          have HW2 := hide hw2
          have hH2 := HI.out.1.drewN k2
          rw [← hw2] at hH2
          have mS := mSwap' hH2
          have kS := swap_any w2 b (n + 1) c l' hH2.o i j1 (by omega) (by omega)
          have HH2 := hide hH2
          clear hw2 hH2 kB
          go_wp2_with (go_at_call 115; refine kS.mono ?_; rintro e w3 ⟨he3, ho3, hg3⟩; subst he3; have HO3 := hide ho3; have HG3 := hide hg3; clear ho3 hg3)
          go_roundg (n - j1)
          case measure => have := HJI.out; omega
          case rel =>
            refine ⟨j1, swp l' i j1, rfl, Nat.le_of_lt hjn, Nat.le_refl _, HH2.out.swapped HO3.out HG3.out, HI.out.2.1.step hjn hj0 HJI.out (of_decide_eq_true HP2.out.symm) HJM.out, ?_⟩
            have hg := HG3.out
            rw [HW2.out] at hg
            exact (HI.out.2.2.drewN k2).trans (Fr.of_grown hg fun j hj => .inl (by cases hj; rfl)) (fun _ _ h => h)
end Go.Proofs.Ytnkllgpibmofiaa
