/- What Unpack and its reference reckon with. Nothing of the program stands here. -/
import Derived.Test.YtcldmjjbiifejaaDoorBMath
namespace Go.Proofs.YtcldmjjbiifejaaDoor

theorem held_more {N T t wd : Nat} (hc : t ≤ T) :
    (N % 2 ^ T) / 2 ^ t ||| (N / 2 ^ T % 2 ^ wd) * 2 ^ (T - t) = (N % 2 ^ (T + wd)) / 2 ^ t := by
  obtain ⟨h, rfl⟩ : ∃ h, T = t + h := ⟨T - t, by omega⟩
  have hlt : (N % 2 ^ (t + h)) / 2 ^ t < 2 ^ h := by
    rw [Nat.div_lt_iff_lt_mul (Nat.two_pow_pos _), ← Nat.pow_add, Nat.add_comm h]
    exact Nat.mod_lt _ (Nat.two_pow_pos _)
  rw [show t + h - t = h by omega, Nat.or_comm, Nat.mul_comm _ (2 ^ h), ← Nat.two_pow_add_eq_or_of_lt hlt, Nat.pow_add _ (t + h) wd, Nat.mod_mul, Nat.pow_add, Nat.mul_assoc, Nat.add_mul_div_left _ _ (Nat.two_pow_pos _), Nat.add_comm]
theorem more_lt {N T t m : Nat} (h : T ≤ t + m) : (N % 2 ^ T) / 2 ^ t < 2 ^ m := by
  rw [Nat.div_lt_iff_lt_mul (Nat.two_pow_pos _), ← Nat.pow_add, Nat.add_comm m]
  exact Nat.lt_of_lt_of_le (Nat.mod_lt _ (Nat.two_pow_pos _)) (Nat.pow_le_pow_right (by decide) h)
theorem held_low {N T t wd : Nat} (h : t + wd ≤ T) : (N % 2 ^ T) / 2 ^ t % 2 ^ wd = N / 2 ^ t % 2 ^ wd := by
  apply Nat.eq_of_testBit_eq
  intro j
  simp only [Nat.testBit_mod_two_pow, Nat.testBit_div_two_pow]
  by_cases hj : j < wd
  · have : j + t < T := by omega
    simp [hj, this]
  · simp [hj]
theorem held_down (N T t wd : Nat) : (N % 2 ^ T) / 2 ^ t / 2 ^ wd = (N % 2 ^ T) / 2 ^ (t + wd) := by
  rw [Nat.div_div_eq_div_mul, ← Nat.pow_add]
theorem mod2_testBit (x : Nat) : x % 2 = (x.testBit 0).toNat := by
  have := Nat.testBit_zero x
  rw [this]; rcases Nat.mod_two_eq_zero_or_one x with h | h <;> simp [h]
theorem bit_testBit (N i : Nat) : N / 2 ^ i % 2 = (N.testBit i).toNat := by
  rw [mod2_testBit, Nat.testBit_div_two_pow, Nat.zero_add]
/-- The reference's bit of bytes. -/
theorem byte_bit (bs : List Nat) (h : ∀ x ∈ bs, x < 2 ^ 8) (i : Nat) (hi : i < 8 * bs.length) : bs.getD (i / 8) 0 / 2 ^ (i % 8) % 2 = ofd 8 bs / 2 ^ i % 2 := by
  have h1 := ofd_getD 8 bs h (i / 8) (by omega)
  rw [← h1, bit_digit _ _ _ _ (by omega), show 8 * (i / 8) + i % 8 = i by omega]
/-- A number whose bits from T on are 0 is below 2^T. -/
theorem lt_of_bits {N T B : Nat} (hB : N < 2 ^ B) (h : ∀ i, T ≤ i → i < B → N / 2 ^ i % 2 = 0) : N < 2 ^ T := by
  apply Nat.lt_pow_two_of_testBit
  intro i hi
  by_cases hiB : i < B
  · have := h i hi hiB
    rw [bit_testBit] at this
    cases hh : N.testBit i
    · rfl
    · rw [hh] at this; simp at this
  · exact Nat.testBit_lt_two_pow (Nat.lt_of_lt_of_le hB (Nat.pow_le_pow_right (by decide) (by omega)))
theorem bits_of_lt {N T i : Nat} (h : N < 2 ^ T) (hi : T ≤ i) : N / 2 ^ i % 2 = 0 := by
  rw [Nat.div_eq_of_lt (Nat.lt_of_lt_of_le h (Nat.pow_le_pow_right (by decide) hi))]
/-- The last byte tells whether the spare bits are 0. -/
theorem last_byte {bs : List Nat} (h : ∀ x ∈ bs, x < 2 ^ 8) {T : Nat} (hl : bs.length = (T + 7) / 8) (hr : T % 8 ≠ 0) : bs.getD (bs.length - 1) 0 / 2 ^ (T % 8) = 0 ↔ ofd 8 bs < 2 ^ T := by
  have hT : T = 8 * (bs.length - 1) + T % 8 := by omega
  have h1 := ofd_getD 8 bs h (bs.length - 1) (by omega)
  have h2 : ofd 8 bs / 2 ^ (8 * (bs.length - 1)) < 2 ^ 8 := by
    have := ofd_lt 8 bs h
    rw [Nat.div_lt_iff_lt_mul (Nat.two_pow_pos _), ← Nat.pow_add]
    rw [show 8 + 8 * (bs.length - 1) = 8 * bs.length by omega]; exact this
  rw [Nat.mod_eq_of_lt h2] at h1
  rw [← h1, Nat.div_div_eq_div_mul, ← Nat.pow_add, ← hT, Nat.div_eq_zero_iff]
  have := Nat.two_pow_pos T
  omega
theorem full_bytes {bs : List Nat} (h : ∀ x ∈ bs, x < 2 ^ 8) {T : Nat} (hl : bs.length = (T + 7) / 8) (hr : T % 8 = 0) : ofd 8 bs < 2 ^ T := by
  have := ofd_lt 8 bs h
  rw [show 8 * bs.length = T by omega] at this; exact this
/-- The bytes are just those of a number of so many bits. -/
def just (bs : List Nat) (T : Nat) : Bool := decide (bs.length = (T + 7) / 8) && decide (ofd 8 bs < 2 ^ T)
end Go.Proofs.YtcldmjjbiifejaaDoor
