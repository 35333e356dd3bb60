/- The rows of a set, rising: how List finds them. Nothing of the program stands here. -/
import Derived.Test.YtcldmjjbiifejaaDoorPop
import Derived.Lib.TrailingZeros
namespace Go.Proofs.YtcldmjjbiifejaaDoor

/-- The rows below m that are in. -/
def lst (m X : Nat) : List Nat := (List.range m).filter fun i => X.testBit i
theorem lst_succ (m X : Nat) : lst (m + 1) X = lst m X ++ (if X.testBit m = true then [m] else []) := by
  unfold lst
  rw [List.range_succ, List.filter_append]
  congr 1
  by_cases h : X.testBit m = true
  · simp [h]
  · simp [h]
theorem lst_gap (X a : Nat) : ∀ d, (∀ j, a ≤ j → j < a + d → X.testBit j = false) → lst (a + d) X = lst a X
  | 0, _ => rfl
  | d + 1, h => by
    rw [← Nat.add_assoc, lst_succ, lst_gap X a d (fun j h1 h2 => h j h1 (by omega)), h (a + d) (by omega) (by omega)]
    simp
theorem lst_length (m X : Nat) : (lst m X).length = cnt m X := by
  unfold lst cnt
  rw [List.countP_eq_length_filter]
theorem lst_mem {m X r : Nat} : r ∈ lst m X ↔ r < m ∧ X.testBit r = true := by simp [lst]
theorem lst_ge {n m X : Nat} (h : X < 2 ^ n) (hm : n ≤ m) : lst m X = lst n X := by
  obtain ⟨d, rfl⟩ : ∃ d, m = n + d := ⟨m - n, by omega⟩
  exact lst_gap X n d (fun j h1 _ => Nat.testBit_lt_two_pow (Nat.lt_of_lt_of_le h (Nat.pow_le_pow_right (by decide) h1)))
theorem lst_le (m X : Nat) : (lst m X).length ≤ m := by rw [lst_length]; exact cnt_le m X

/-- A word's lowest bit, and the word without it. -/
theorem low_bit {y : Nat} (h0 : y ≠ 0) (h : y < 2 ^ 64) : ∃ k, Lib.ctz 64 y = k ∧ k < 64 ∧ y.testBit k = true ∧ (∀ j, j < k → y.testBit j = false) ∧
    (∀ j, (y &&& (y - 1)).testBit j = (decide (k + 1 ≤ j) && y.testBit j)) ∧ (y &&& (y - 1)) < y := by
  obtain ⟨m, hy, hk⟩ := Lib.ctzFrom_spec 64 y (by omega) h
  refine ⟨_, by unfold Lib.ctz; rw [if_neg h0], hk, ?_⟩
  generalize Lib.ctzFrom 64 y = k at *
  have e1 : y - 1 = 2 ^ k * (2 * m) + (2 ^ k - 1) := by
    rw [hy, Nat.mul_add]
    have := Nat.two_pow_pos k
    omega
  have hb : 2 ^ k - 1 < 2 ^ k := by have := Nat.two_pow_pos k; omega
  have b1 : ∀ j, y.testBit j = (decide (k ≤ j) && (2 * m + 1).testBit (j - k)) := by
    intro j; rw [hy, Nat.testBit_two_pow_mul]
  have b2 : ∀ j, (y - 1).testBit j = if j < k then (2 ^ k - 1).testBit j else (2 * m).testBit (j - k) := by
    intro j; rw [e1, Nat.testBit_two_pow_mul_add _ hb]
  have b3 : ∀ j, (2 * m + 1).testBit (j + 1) = (2 * m).testBit (j + 1) := by
    intro j; rw [Nat.testBit_succ, Nat.testBit_succ]; congr 1; omega
  refine ⟨?_, ?_, ?_, ?_⟩
  · rw [b1]; simp [Nat.testBit_zero]
  · intro j hj; rw [b1]; simp; omega
  · intro j
    rw [Nat.testBit_and, b2, b1]
    rcases Nat.lt_trichotomy j k with hj | hj | hj
    · simp [hj, show ¬ k ≤ j by omega]
    · subst hj; simp [Nat.testBit_zero]
    · obtain ⟨c, rfl⟩ : ∃ c, j = k + (c + 1) := ⟨j - k - 1, by omega⟩
      simp [show ¬ k + (c + 1) < k by omega, show k + (c + 1) - k = c + 1 by omega, b3]
  · have : y &&& (y - 1) ≤ y - 1 := Nat.and_le_right
    omega
end Go.Proofs.YtcldmjjbiifejaaDoor
