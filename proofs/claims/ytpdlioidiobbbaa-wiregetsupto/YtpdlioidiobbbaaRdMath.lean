/- Plain mathematics of reading numbers from bytes. No program is named here. -/
import Derived.Test.YtpdlioidiobbbaaMath
namespace Go.Proofs.Ytpdlioidiobbbaa
namespace Rd
/-- A number out of bytes, behind i bytes that gave n so far: the number, the bytes that it took, the error. -/
def uvR : List UInt8 → Nat → Nat → Nat × Nat × Nat
  | [], _, _ => (0, 0, 10)
  | c :: r, i, n =>
    if (i = 9 ∧ 1 < c.toNat) ∨ (0 < i ∧ c.toNat = 0) then (0, 0, 12)
    else if c.toNat < 128 then (n + c.toNat % 128 * 2 ^ (7 * i), i + 1, 0)
    else uvR r (i + 1) (n + c.toNat % 128 * 2 ^ (7 * i))
theorem uvR_bad (c : UInt8) (r : List UInt8) (i n : Nat) (h : (i = 9 ∧ 1 < c.toNat) ∨ (0 < i ∧ c.toNat = 0)) : uvR (c :: r) i n = (0, 0, 12) := by
  unfold uvR; rw [if_pos h]
theorem uvR_last (c : UInt8) (r : List UInt8) (i n : Nat) (h : ¬ ((i = 9 ∧ 1 < c.toNat) ∨ (0 < i ∧ c.toNat = 0))) (hc : c.toNat < 128) : uvR (c :: r) i n = (n + c.toNat % 128 * 2 ^ (7 * i), i + 1, 0) := by
  unfold uvR; rw [if_neg h, if_pos hc]
theorem uvR_more (c : UInt8) (r : List UInt8) (i n : Nat) (h : ¬ ((i = 9 ∧ 1 < c.toNat) ∨ (0 < i ∧ c.toNat = 0))) (hc : ¬ c.toNat < 128) : uvR (c :: r) i n = uvR r (i + 1) (n + c.toNat % 128 * 2 ^ (7 * i)) := by
  conv => lhs; unfold uvR
  rw [if_neg h, if_neg hc]
/-- What a call answers, where it is then, and its first error. -/
def uS (l : List UInt8) (p e : Nat) : Nat × Nat × Nat :=
  if e ≠ 0 then (0, p, e) else
    let x := uvR (l.drop p) 0 0
    if x.2.2 = 0 then (x.1, p + x.2.1, 0) else (0, p, x.2.2)
/-- The bound on the bits so far, and how one byte more is laid. -/
theorem or_u64 (n c k : Nat) (hn : n < 2 ^ (7 * k)) (hc : c < 128) (hk : k ≤ 8 ∨ (k = 9 ∧ c ≤ 1)) :
    bits .or .u64 (n : Int) ((c : Int) * 2 ^ (7 * k) % 18446744073709551616) = ((n + c * 2 ^ (7 * k) : Nat) : Int) ∧ n + c * 2 ^ (7 * k) < 18446744073709551616 := by
  have hm : n + c * 2 ^ (7 * k) < 18446744073709551616 := by
    rcases hk with hk | ⟨rfl, hc1⟩
    · have hp : 2 ^ (7 * k) ≤ 2 ^ 56 := Nat.pow_le_pow_right (by decide) (by omega)
      have h1 : c * 2 ^ (7 * k) ≤ 127 * 2 ^ 56 := Nat.mul_le_mul (by omega) hp
      omega
    · have h1 : c * 2 ^ (7 * 9) ≤ 1 * 2 ^ 63 := Nat.mul_le_mul hc1 (by decide)
      omega
  refine ⟨?_, hm⟩
  have hcm : c * 2 ^ (7 * k) < 18446744073709551616 := by omega
  have e2 : (c : Int) * 2 ^ (7 * k) = ((c * 2 ^ (7 * k) : Nat) : Int) := by simp
  have e3 : ((c * 2 ^ (7 * k) : Nat) : Int) % 18446744073709551616 = ((c * 2 ^ (7 * k) : Nat) : Int) := Int.emod_eq_of_lt (Int.natCast_nonneg _) (by omega)
  rw [e2, e3, u64_or_nat _ _ (by omega) hcm]
  have h := Nat.shiftLeft_add_eq_or_of_lt hn c
  rw [Nat.shiftLeft_eq] at h
  rw [Nat.or_comm, ← h, Nat.add_comm]
theorem next_lt (n c k : Nat) (hn : n < 2 ^ (7 * k)) (hc : c < 128) : n + c * 2 ^ (7 * k) < 2 ^ (7 * (k + 1)) := by
  have e : 2 ^ (7 * (k + 1)) = 128 * 2 ^ (7 * k) := by rw [Nat.mul_add, Nat.pow_add, Nat.mul_comm]
  have h1 : c * 2 ^ (7 * k) ≤ 127 * 2 ^ (7 * k) := Nat.mul_le_mul_right _ (by omega)
  rw [e]; omega
theorem uvR_bound : ∀ (s : List UInt8) (i n : Nat), n < 2 ^ (7 * i) → i ≤ 9 → (uvR s i n).1 < 18446744073709551616 ∧ (uvR s i n).2.1 ≤ i + s.length
  | [], _, _, _, _ => by simp [uvR]
  | c :: r, i, n, hn, hi => by
    by_cases h : (i = 9 ∧ 1 < c.toNat) ∨ (0 < i ∧ c.toNat = 0)
    · rw [uvR_bad c r i n h]; simp
    · by_cases hc : c.toNat < 128
      · rw [uvR_last c r i n h hc]
        have := (or_u64 n (c.toNat % 128) i hn (Nat.mod_lt _ (by decide)) (by omega)).2
        simp only [List.length_cons]
        exact ⟨this, by omega⟩
      · rw [uvR_more c r i n h hc]
        have := uvR_bound r (i + 1) _ (next_lt n (c.toNat % 128) i hn (Nat.mod_lt _ (by decide))) (by omega)
        simp only [List.length_cons]
        exact ⟨this.1, by omega⟩
theorem uS_lt (l : List UInt8) (p e : Nat) : (uS l p e).1 < 18446744073709551616 := by
  have h := uvR_bound (l.drop p) 0 0 (by decide) (by omega)
  unfold uS
  split
  · simp
  · simp only
    split
    · exact h.1
    · simp
theorem uS_le (l : List UInt8) (p e : Nat) (hp : p ≤ l.length) : (uS l p e).2.1 ≤ l.length := by
  have h := uvR_bound (l.drop p) 0 0 (by decide) (by omega)
  have hl : (l.drop p).length = l.length - p := List.length_drop
  unfold uS
  split
  · exact hp
  · simp only
    split
    · show p + _ ≤ _
      omega
    · exact hp
end Rd
end Go.Proofs.Ytpdlioidiobbbaa
