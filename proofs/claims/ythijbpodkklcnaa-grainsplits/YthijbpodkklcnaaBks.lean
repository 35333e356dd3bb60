/- The reference's Bucket, and the walk of GrainBuckets. -/
import Derived.Test.YthijbpodkklcnaaAwake
namespace Go.Proofs.Ythijbpodkklcnaa
open Go.RowKit Go.Sort

theorem floor_eq {t g : Int} (_hg : 1 ≤ g) : t / g * g = t - t % g := by
  have := Int.mul_ediv_add_emod t g
  rw [Int.mul_comm]; omega
theorem quo_in (t g : Int) (hg : 1 ≤ g) : (0 ≤ t → 0 ≤ t.tdiv g ∧ t.tdiv g ≤ t) ∧ (t < 0 → t ≤ t.tdiv g ∧ t.tdiv g ≤ 0) := by
  constructor
  · intro h
    rw [Int.tdiv_eq_ediv_of_nonneg h]
    exact ⟨Int.ediv_nonneg h (by omega), Int.ediv_le_self _ h⟩
  · intro h
    have e : t.tdiv g = -((-t) / g) := by
      rw [← Int.tdiv_eq_ediv_of_nonneg (by omega : 0 ≤ -t), Int.neg_tdiv]; omega
    rw [e]
    have h1 := Int.ediv_nonneg (a := -t) (b := g) (by omega) (by omega)
    have h2 := Int.ediv_le_self (a := -t) g (by omega)
    omega
/-- The quotient's bound. -/
theorem quo_low {q g : Int} (hg : 1 ≤ g) (h : q * g < -9223372036854775808) : q < (-9223372036854775807 : Int).tdiv g := by
  have e : (-9223372036854775807 : Int).tdiv g = -((9223372036854775807 : Int) / g) := by
    rw [Int.neg_tdiv, Int.tdiv_eq_ediv_of_nonneg (by decide)]
  rw [e]
  by_cases c : q < -((9223372036854775807 : Int) / g)
  · exact c
  · have h1 : -((9223372036854775807 : Int) / g) * g ≤ q * g := Int.mul_le_mul_of_nonneg_right (by omega) (by omega)
    have h2 := floor_eq (t := 9223372036854775807) hg
    have h3 := Int.emod_nonneg (9223372036854775807 : Int) (show g ≠ 0 by omega)
    rw [Int.neg_mul, h2] at h1
    omega

set_option maxHeartbeats 1600000 in
theorem refbucket_any (w : World) (t g : Int) (hg2 : In64 g) (ht : In64 t) :
    Calls Try.prog 18 #[.int .i64 t, .int .i64 g] w fun e w' => e = .returned (.int .i64 (bck t g)) ∧ w' = w := by
  unfold bck
  by_cases hg : g < 1
  · rw [if_pos hg]
    go_enter Try.func18, Try.ntmps18
    go_wp2_with fail
    go_ret
    exact ⟨rfl, rfl⟩
  · rw [if_neg hg]
    have hz : (g == 0) = false := by simp; omega
    have m1 := Int.emod_nonneg t (show g ≠ 0 by omega)
    have m2 := Int.emod_lt_of_pos t (show 0 < g by omega)
    obtain ⟨k1, k2⟩ := tmod_in (t := t) (g := g) (by omega)
    have hQi := quo_in t g (by omega)
    have hLi := quo_in (-9223372036854775807) g (by omega)
    have hPf := floor_eq (t := t) (g := g) (by omega)
    unfold In64 at *
    generalize t % g = R at *
    obtain ⟨P, hP⟩ : ∃ P, P = t - R := ⟨_, rfl⟩
    rw [← hP] at hPf
    obtain ⟨L, hL⟩ : ∃ L, (-9223372036854775807 : Int).tdiv g = L := ⟨_, rfl⟩
    rw [hL] at hLi
    have hLi : -9223372036854775807 ≤ L ∧ L ≤ 0 := hLi.2 (by decide)
    obtain ⟨Q, hQ⟩ : ∃ Q, t.tdiv g = Q := ⟨_, rfl⟩
    rw [hQ] at hQi
    have hQi : -9223372036854775808 ≤ Q ∧ Q < 9223372036854775808 := by
      by_cases c : 0 ≤ t
      · have := hQi.1 c; omega
      · have := hQi.2 (by omega); omega
    obtain ⟨M, hMd⟩ : ∃ M, t.tmod g = M := ⟨_, rfl⟩
    rw [hMd] at k1 k2
    by_cases h1 : t < 0
    · by_cases h2 : M = 0
      · have hq : Q = t / g := by rw [← hQ]; exact tdiv_same fun h => h.2 (by rw [hMd]; exact h2)
        subst h2
        have hM : Q * g = P := by rw [hq]; exact hPf
        have hD : P.tdiv g = Q := by rw [← hM, Int.mul_tdiv_cancel _ (by omega)]
        clear hq hPf
        by_cases hlow : P < -9223372036854775808
        · have hl : Q < L := by rw [← hL]; exact quo_low (by omega) (by rw [hM]; exact hlow)
          have hw : IntKind.i64.wrap P = P + 18446744073709551616 := by simp [IntKind.wrap, IntKind.bits, IntKind.signed]; omega
          have hpos : P + 18446744073709551616 > 0 := by omega
          rw [if_pos (by omega)]
          clear hP
          go_enter Try.func18, Try.ntmps18
          go_wp2_with fail
          go_ret
          exact ⟨rfl, rfl⟩
        · rw [if_neg (by omega), ← hP]
          have hPu : P < 9223372036854775808 := by omega
          have hPl : -9223372036854775808 ≤ P := by omega
          by_cases hl : Q < L
          · have hneg : ¬ P > 0 := by
              have : Q * g ≤ 0 := Int.mul_nonpos_of_nonpos_of_nonneg (by omega) (by omega)
              rw [hM] at this; omega
            clear hP
            go_enter Try.func18, Try.ntmps18
            go_wp2_with fail
            go_ret
            exact ⟨rfl, rfl⟩
          · clear hP
            go_enter Try.func18, Try.ntmps18
            go_wp2_with fail
            go_ret
            exact ⟨rfl, rfl⟩
      · have hq : Q - 1 = t / g := by rw [← hQ]; exact tdiv_down (by omega) ⟨h1, by rw [hMd]; exact h2⟩
        have hne : (M == 0) = false := by simpa using h2
        have hQ1 : -9223372036854775808 ≤ Q - 1 := by
          rw [hq]
          have : -9223372036854775808 ≤ t / g := Int.le_ediv_of_mul_le (by omega) (by omega)
          exact this
        have hM : (Q - 1) * g = P := by rw [hq]; exact hPf
        have hD : P.tdiv g = Q - 1 := by rw [← hM, Int.mul_tdiv_cancel _ (by omega)]
        clear hq hPf
        by_cases hlow : P < -9223372036854775808
        · have hl : Q - 1 < L := by rw [← hL]; exact quo_low (by omega) (by rw [hM]; exact hlow)
          have hw : IntKind.i64.wrap P = P + 18446744073709551616 := by simp [IntKind.wrap, IntKind.bits, IntKind.signed]; omega
          have hpos : P + 18446744073709551616 > 0 := by omega
          rw [if_pos (by omega)]
          clear hP
          go_enter Try.func18, Try.ntmps18
          go_wp2_with fail
          go_ret
          exact ⟨rfl, rfl⟩
        · rw [if_neg (by omega), ← hP]
          have hPu : P < 9223372036854775808 := by omega
          have hPl : -9223372036854775808 ≤ P := by omega
          by_cases hl : Q - 1 < L
          · have hneg : ¬ P > 0 := by
              have : (Q - 1) * g ≤ 0 := Int.mul_nonpos_of_nonpos_of_nonneg (by omega) (by omega)
              rw [hM] at this; omega
            clear hP
            go_enter Try.func18, Try.ntmps18
            go_wp2_with fail
            go_ret
            exact ⟨rfl, rfl⟩
          · clear hP
            go_enter Try.func18, Try.ntmps18
            go_wp2_with fail
            go_ret
            exact ⟨rfl, rfl⟩
    · have hq : Q = t / g := by rw [← hQ]; exact tdiv_same fun h => h1 h.1
      have hM : Q * g = P := by rw [hq]; exact hPf
      have hD : P.tdiv g = Q := by rw [← hM, Int.mul_tdiv_cancel _ (by omega)]
      clear hq hPf
      by_cases hlow : P < -9223372036854775808
      · have hl : Q < L := by rw [← hL]; exact quo_low (by omega) (by rw [hM]; exact hlow)
        have hw : IntKind.i64.wrap P = P + 18446744073709551616 := by simp [IntKind.wrap, IntKind.bits, IntKind.signed]; omega
        have hpos : P + 18446744073709551616 > 0 := by omega
        rw [if_pos (by omega)]
        clear hP
        go_enter Try.func18, Try.ntmps18
        go_wp2_with fail
        go_ret
        exact ⟨rfl, rfl⟩
      · rw [if_neg (by omega), ← hP]
        have hPu : P < 9223372036854775808 := by omega
        have hPl : -9223372036854775808 ≤ P := by omega
        by_cases hl : Q < L
        · have hneg : ¬ P > 0 := by
            have : Q * g ≤ 0 := Int.mul_nonpos_of_nonpos_of_nonneg (by omega) (by omega)
            rw [hM] at this; omega
          clear hP
          go_enter Try.func18, Try.ntmps18
          go_wp2_with fail
          go_ret
          exact ⟨rfl, rfl⟩
        · clear hP
          go_enter Try.func18, Try.ntmps18
          go_wp2_with fail
          go_ret
          exact ⟨rfl, rfl⟩

set_option maxHeartbeats 800000 in
theorem buckets_walk (w : World) (t : Int) (ht : In64 t) (g : Int) (hg : In64 g) :
    Calls Try.prog 4 #[.int .i64 t, .int .i64 g] w fun e w' => e = .returned (.bool true) ∧ Below w.heap.size w w' := by
  have kA := awake_any w
  have kB := fun W => bucket_any W t g hg ht
  have kR := fun W => refbucket_any W t g hg ht
  generalize bck t g = b at *
  go_enter Try.func4, Try.ntmps4
  go_wp2_with fail
  refine kA.mono ?_
  rintro e w1 ⟨rfl, b1⟩
  have HB : Hid _ := b1
  clear kA b1
  go_wp2_with (first | (go_at_call 17; refine (kB _).mono ?_; rintro e w' ⟨rfl, rfl⟩) | (go_at_call 18; refine (kR _).mono ?_; rintro e w' ⟨rfl, rfl⟩))
  go_ret
  exact ⟨by simp, HB.out⟩
end Go.Proofs.Ythijbpodkklcnaa
