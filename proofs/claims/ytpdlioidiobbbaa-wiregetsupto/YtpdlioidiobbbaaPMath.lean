/- Reading back what was written: numbers as bytes. No walk stands here. -/
import Derived.Test.YtpdlioidiobbbaaRdMath
namespace Go.Proofs.Ytpdlioidiobbbaa
namespace Rd
open Num

theorem ofNat_small (n : Nat) (h : n < 256) : (UInt8.ofNat n).toNat = n := by simp [UInt8.toNat_ofNat']; omega
/-- What was written is read. -/
theorem uvR_read : ∀ (f n i acc : Nat) (r : List UInt8), f + i = 9 → n * 2 ^ (7 * i) < 2 ^ 64 → (0 < i → 0 < n) → uvR (uvF f n ++ r) i acc = (acc + n * 2 ^ (7 * i), i + (uvF f n).length, 0)
  | 0, n, i, acc, r, hf, hn, h0 => by
    obtain rfl : i = 9 := by omega
    have h1 : n ≤ 1 := by
      have : n * 2 ^ 63 < 2 * 2 ^ 63 := by simpa using hn
      have := Nat.lt_of_mul_lt_mul_right this
      omega
    have hc := ofNat_small n (by omega)
    rw [uvF_small 0 n (by omega)]
    rw [List.singleton_append, uvR_last _ _ _ _ (by rw [hc]; rintro (⟨_, h⟩ | ⟨_, h⟩) <;> have := h0 (by omega) <;> omega) (by rw [hc]; omega), hc, Nat.mod_eq_of_lt (by omega)]
    rfl
  | f + 1, n, i, acc, r, hf, hn, h0 => by
    by_cases hs : n < 128
    · have hc := ofNat_small n (by omega)
      rw [uvF_small _ n hs, List.singleton_append, uvR_last _ _ _ _ (by rw [hc]; rintro (⟨h, _⟩ | ⟨h, h'⟩) <;> (try have := h0 h) <;> omega) (by rw [hc]; omega), hc, Nat.mod_eq_of_lt hs]
      rfl
    · have hc := ofNat_small (n % 128 + 128) (by omega)
      have hp : 2 ^ (7 * (i + 1)) = 2 ^ (7 * i) * 128 := by rw [Nat.mul_add, Nat.pow_add]
      have hd : n / 128 * 2 ^ (7 * (i + 1)) ≤ n * 2 ^ (7 * i) := by
        rw [hp, ← Nat.mul_assoc, Nat.mul_right_comm]
        exact Nat.mul_le_mul_right _ (by omega)
      rw [uvF_great f n (by omega), List.cons_append, uvR_more _ _ _ _ (by rw [hc]; omega) (by rw [hc]; omega), hc,
        uvR_read f (n / 128) (i + 1) _ r (by omega) (by omega) (fun _ => by omega)]
      have e1 : (n % 128 + 128) % 128 = n % 128 := by omega
      have e2 : n % 128 * 2 ^ (7 * i) + n / 128 * 2 ^ (7 * (i + 1)) = n * 2 ^ (7 * i) := by
        rw [hp, ← Nat.mul_assoc, Nat.mul_right_comm, ← Nat.add_mul]
        congr 1
        omega
      rw [e1, Nat.add_assoc, e2, List.length_cons]
      congr 2
      omega
/-- What is read was so written. -/
theorem uvR_canon : ∀ (s : List UInt8) (i acc v k : Nat), uvR s i acc = (v, k, 0) → i ≤ 9 → ∃ n, v = acc + n * 2 ^ (7 * i) ∧ i < k ∧ k ≤ i + s.length ∧ s.take (k - i) = uvF (9 - i) n ∧ (0 < i → 0 < n)
  | [], i, acc, v, k, h, _ => by simp [uvR] at h
  | c :: r, i, acc, v, k, h, hi => by
    by_cases hb : (i = 9 ∧ 1 < c.toNat) ∨ (0 < i ∧ c.toNat = 0)
    · rw [uvR_bad c r i acc hb] at h
      simp at h
    · have hcc : UInt8.ofNat c.toNat = c := by simp
      by_cases hc : c.toNat < 128
      · rw [uvR_last c r i acc hb hc] at h
        simp only [Prod.mk.injEq, and_true] at h
        obtain ⟨rfl, rfl⟩ := h
        refine ⟨c.toNat, by rw [Nat.mod_eq_of_lt hc], by omega, by simp, ?_, fun h0 => by omega⟩
        rw [show i + 1 - i = 1 by omega, uvF_small _ _ hc, hcc]
        rfl
      · rw [uvR_more c r i acc hb hc] at h
        have hi9 : i < 9 := by omega
        obtain ⟨n, h1, h2, h3, h4, h5⟩ := uvR_canon r (i + 1) _ v k h (by omega)
        have hn := h5 (by omega)
        have hlt := c.toNat_lt
        refine ⟨c.toNat % 128 + 128 * n, ?_, by omega, by simp; omega, ?_, fun _ => by omega⟩
        · rw [h1, Nat.add_mul, Nat.mul_add 7, Nat.pow_add, Nat.add_assoc]
          congr 2
          rw [Nat.mul_comm 128 n, Nat.mul_assoc, Nat.mul_comm (2 ^ (7 * i))]
        · obtain ⟨f, hf⟩ : ∃ f, 9 - i = f + 1 := ⟨9 - i - 1, by omega⟩
          have hf' : 9 - (i + 1) = f := by omega
          rw [hf, uvF_great f _ (by omega), show k - i = (k - (i + 1)) + 1 by omega, List.take_succ_cons, h4, hf']
          congr 1
          · rw [show (c.toNat % 128 + 128 * n) % 128 + 128 = c.toNat by omega, hcc]
          · rw [show (c.toNat % 128 + 128 * n) / 128 = n by omega]
theorem uS_write (l r : List UInt8) (p n : Nat) (h : l.drop p = uv n ++ r) (hn : n < 2 ^ 64) : uS l p 0 = (n, p + (uv n).length, 0) := by
  have := uvR_read 9 n 0 0 r rfl (by simpa using hn) (by omega)
  unfold uS
  rw [if_neg (by simp), h]
  unfold uv
  rw [this]
  simp
theorem uS_canon (l : List UInt8) (p n p' : Nat) (h : uS l p 0 = (n, p', 0)) : p < p' ∧ p' ≤ p + (l.drop p).length ∧ l.drop p = uv n ++ l.drop p' := by
  unfold uS at h
  rw [if_neg (by simp)] at h
  obtain ⟨v, k, e, hx⟩ : ∃ v k e, uvR (l.drop p) 0 0 = (v, k, e) := ⟨_, _, _, rfl⟩
  simp only [hx] at h
  by_cases he : e = 0
  · subst he
    simp at h
    obtain ⟨rfl, rfl⟩ := h
    obtain ⟨m, h1, h2, h3, h4, _⟩ := uvR_canon _ 0 0 v k hx (by omega)
    simp at h1 h4
    subst h1
    refine ⟨by omega, by omega, ?_⟩
    rw [show uv v = uvF 9 v from rfl, ← h4, ← List.drop_drop]
    exact (List.take_append_drop k _).symm
  · rw [if_neg he] at h
    simp at h
    omega
end Rd
end Go.Proofs.Ytpdlioidiobbbaa
