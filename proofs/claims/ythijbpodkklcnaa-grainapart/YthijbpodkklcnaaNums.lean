/- Contracts of within, Bucket, firstEnd. -/
import Derived.Test.YthijbpodkklcnaaFns
namespace Go.Proofs.Ythijbpodkklcnaa
open Go.RowKit Go.Sort

def lo64 : Int := -9223372036854775808
def In64 (t : Int) : Prop := -9223372036854775808 ≤ t ∧ t < 9223372036854775808
theorem tmod_neg {t g : Int} (hg : 1 ≤ g) (h : t.tmod g < 0) : t.tmod g + g = t % g := by
  rw [Int.tmod_eq_emod] at *
  have := Int.emod_nonneg t (show g ≠ 0 by omega)
  by_cases c : 0 ≤ t ∨ g ∣ t
  · rw [if_pos c] at *; omega
  · rw [if_neg c] at *; omega
theorem tmod_pos {t g : Int} (hg : 1 ≤ g) (h : ¬ t.tmod g < 0) : t.tmod g = t % g := by
  rw [Int.tmod_eq_emod] at *
  have := Int.emod_lt_of_pos t (show 0 < g by omega)
  by_cases c : 0 ≤ t ∨ g ∣ t
  · rw [if_pos c] at *; omega
  · rw [if_neg c] at *; omega
theorem tmod_in {t g : Int} (hg : 1 ≤ g) : -g < t.tmod g ∧ t.tmod g < g := by
  rw [Int.tmod_eq_emod]
  have := Int.emod_lt_of_pos t (show 0 < g by omega)
  have := Int.emod_nonneg t (show g ≠ 0 by omega)
  by_cases c : 0 ≤ t ∨ g ∣ t
  · rw [if_pos c]; omega
  · rw [if_neg c]
    have : t % g ≠ 0 := fun h => c (.inr (Int.dvd_of_emod_eq_zero h))
    omega

set_option maxHeartbeats 400000 in
theorem within_any (w : World) (t g : Int) (hg : 1 ≤ g) (hg2 : In64 g) (_ht : In64 t) :
    Calls Try.prog 26 #[.int .i64 t, .int .i64 g] w fun e w' => e = .returned (.int .i64 (t % g)) ∧ w' = w := by
  have hz : (g == 0) = false := by simp; omega
  obtain ⟨h1, h2⟩ := tmod_in (t := t) hg
  unfold In64 at *
  by_cases h : t.tmod g < 0
  · rw [← tmod_neg hg h]
    go_enter Try.func26, Try.ntmps26
    go_wp2_with fail
    go_ret
    exact ⟨rfl, rfl⟩
  · rw [← tmod_pos hg h]
    go_enter Try.func26, Try.ntmps26
    go_wp2_with fail
    go_ret
    exact ⟨rfl, rfl⟩

/-- Where the bucket begins. -/
def bck (t g : Int) : Int := if g < 1 then 0 else if t < -9223372036854775808 + t % g then -9223372036854775808 else t - t % g
set_option maxHeartbeats 400000 in
theorem bucket_any (w : World) (t g : Int) (hg2 : In64 g) (ht : In64 t) :
    Calls Try.prog 17 #[.int .i64 t, .int .i64 g] w fun e w' => e = .returned (.int .i64 (bck t g)) ∧ w' = w := by
  unfold bck
  by_cases hg : g < 1
  · rw [if_pos hg]
    go_enter Try.func17, Try.ntmps17
    go_wp2_with fail
    go_ret
    exact ⟨rfl, rfl⟩
  · rw [if_neg hg]
    have kw := within_any w t g (by omega) hg2 ht
    have h1 := Int.emod_nonneg t (show g ≠ 0 by omega)
    have h2 := Int.emod_lt_of_pos t (show 0 < g by omega)
    unfold In64 at *
    generalize t % g = m at *
    by_cases h : t < -9223372036854775808 + m
    · rw [if_pos h]
      go_enter Try.func17, Try.ntmps17
      go_wp2_with (go_at_call 26; refine kw.mono ?_; rintro e w' ⟨rfl, rfl⟩)
      go_ret
      exact ⟨rfl, rfl⟩
    · rw [if_neg h]
      go_enter Try.func17, Try.ntmps17
      go_wp2_with (go_at_call 26; refine kw.mono ?_; rintro e w' ⟨rfl, rfl⟩)
      go_ret
      exact ⟨rfl, rfl⟩

/-- Where the first part of a span ends. -/
def fe (F T g : Int) : Int := if F > 9223372036854775807 - (g - F % g) then T else min (F + (g - F % g)) T
set_option maxHeartbeats 800000 in
theorem firstEnd_any (w : World) (F T g : Int) (hg : 1 ≤ g) (hg2 : In64 g) (hF : In64 F) :
    Calls Try.prog 29 #[.agg #[.int .i64 F, .int .i64 T], .int .i64 g] w fun e w' => e = .returned (.int .i64 (fe F T g)) ∧ Grows w w' := by
  unfold fe
  have kw := fun W => within_any W F g hg hg2 hF
  have h1 := Int.emod_nonneg F (show g ≠ 0 by omega)
  have h2 := Int.emod_lt_of_pos F (show 0 < g by omega)
  unfold In64 at *
  generalize F % g = m at *
  by_cases h : F > 9223372036854775807 - (g - m)
  · rw [if_pos h]
    go_enter Try.func29, Try.ntmps29
    go_wp2_with (go_at_call 26; refine (kw _).mono ?_; rintro e w' ⟨rfl, rfl⟩)
    go_ret
    exact ⟨rfl, Grows.alloc _ _⟩
  · rw [if_neg h]
    go_enter Try.func29, Try.ntmps29
    go_wp2_with (go_at_call 26; refine (kw _).mono ?_; rintro e w' ⟨rfl, rfl⟩)
    go_ret
    exact ⟨rfl, Grows.alloc _ _⟩

theorem tdiv_down {t g : Int} (hg : 1 ≤ g) (h : t < 0 ∧ t.tmod g ≠ 0) : t.tdiv g - 1 = t / g := by
  rw [Int.tdiv_eq_ediv]
  have : ¬ (0 ≤ t ∨ g ∣ t) := fun c => c.elim (fun c => by omega) fun c => h.2 (Int.tmod_eq_zero_of_dvd c)
  rw [if_neg this, Int.sign_eq_one_of_pos (by omega)]
  omega
theorem tdiv_same {t g : Int} (h : ¬ (t < 0 ∧ t.tmod g ≠ 0)) : t.tdiv g = t / g := by
  rw [Int.tdiv_eq_ediv]
  have : 0 ≤ t ∨ g ∣ t := by
    by_cases c : 0 ≤ t
    · exact .inl c
    · exact .inr (Int.dvd_of_tmod_eq_zero (by by_cases e : t.tmod g = 0; exact e; exact absurd ⟨by omega, e⟩ h))
  rw [if_pos this]; omega
end Go.Proofs.Ythijbpodkklcnaa
