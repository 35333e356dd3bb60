/- A frame of which up to 32 bits side by side were changed is refused: plain mathematics over what Frame and Unframe answer. -/
import Derived.Test.YthegdhbmfojdaaaWBurst
import Derived.Test.YthegdhbmfojdaaaWUnframe
namespace Go.Proofs.Ythegdhbmfojdaaa.Wi
theorem framed_length (l : List UInt8) : (framed l).length = 8 + l.length := by simp [framed, Four.le4_length]; omega
theorem unf_framed (l : List UInt8) (hl : l.length ≤ 1048576) : unf (framed l) = 0 ∧ (framed l).drop 8 = l := by
  have h4 : (framed l).take 4 = Four.le4 (Crc.sum (Four.le4 l.length ++ l)) := by unfold framed; rw [List.take_append_of_le_length (by simp [Four.le4_length])]; exact List.take_of_length_le (by simp [Four.le4_length])
  have hd : (framed l).drop 4 = Four.le4 l.length ++ l := by unfold framed; rw [List.drop_append_of_le_length (by simp [Four.le4_length])]; simp [Four.le4]
  have h8 : (framed l).drop 8 = l := by
    have : (framed l).drop 8 = ((framed l).drop 4).drop 4 := by rw [List.drop_drop]
    rw [this, hd]; simp [Four.le4]
  refine ⟨?_, h8⟩
  have e4 : ((framed l).drop 4).take 4 = Four.le4 l.length := by rw [hd]; simp [Four.le4]
  unfold unf
  rw [framed_length, if_neg (by omega), e4, Four.num_le4 _ (by omega), if_neg (by omega), h4, hd, Four.num_le4 _ (Crc.sum_lt _), if_neg (by simp)]

open Crc (xor_high num_cons_xor)
namespace Four
theorem num_append : ∀ (a b : List UInt8), num (a ++ b) = num a + num b * 2 ^ (8 * a.length)
  | [], b => by simp [num]
  | c :: a, b => by
    have h := num_append a b
    have e : 2 ^ (8 * (a.length + 1)) = 2 ^ (8 * a.length) * 256 := by rw [Nat.mul_add, Nat.pow_add]
    simp only [List.cons_append, num, List.length_cons, h, e]
    rw [Nat.mul_add, Nat.add_assoc]
    congr 2
    ac_rfl
theorem num_take_drop (l : List UInt8) (k : Nat) (h : k ≤ l.length) : num (l.take k) = num l % 2 ^ (8 * k) ∧ num (l.drop k) = num l / 2 ^ (8 * k) := by
  have hl : (l.take k).length = k := by simp; omega
  have h1 := num_append (l.take k) (l.drop k)
  have h2 := num_lt_pow (l.take k)
  rw [List.take_append_drop, hl] at h1
  rw [hl] at h2
  rw [h1, Nat.add_mul_mod_self_right, Nat.mod_eq_of_lt h2, Nat.add_mul_div_right _ _ (Nat.two_pow_pos _), Nat.div_eq_of_lt h2]
  simp
theorem mul_pow_xor (x y n : Nat) : (x ^^^ y) * 2 ^ n = (x * 2 ^ n) ^^^ (y * 2 ^ n) := by
  have := @Nat.shiftLeft_xor_distrib n x y
  simpa [Nat.shiftLeft_eq] using this
/-- A byte with one bit changed. -/
def flip (c : UInt8) (j : Nat) : UInt8 := UInt8.ofNat (c.toNat ^^^ 2 ^ j)
theorem flip_nat (c : UInt8) (j : Nat) (hj : j < 8) : (flip c j).toNat = c.toNat ^^^ 2 ^ j := by
  have : 2 ^ j < 2 ^ 8 := Nat.pow_lt_pow_right (by decide) hj
  have h : c.toNat ^^^ 2 ^ j < 2 ^ 8 := Nat.xor_lt_two_pow c.toNat_lt this
  unfold flip
  rw [UInt8.toNat_ofNat']
  exact Nat.mod_eq_of_lt h
theorem num_flip : ∀ (l : List UInt8) (k : Nat), k < 8 * l.length → num (l.set (k / 8) (flip (l.getD (k / 8) 0) (k % 8))) = num l ^^^ 2 ^ k
  | [], k, h => by simp at h
  | c :: l, k, h => by
    by_cases hk : k < 8
    · have e1 : k / 8 = 0 := by omega
      have e2 : k % 8 = k := by omega
      rw [e1, e2, List.set_cons_zero, num_cons_xor, num_cons_xor]
      simp only [List.getD_cons_zero]
      rw [flip_nat c k hk, Nat.xor_assoc, Nat.xor_comm (2 ^ k), Nat.xor_assoc]
    · obtain ⟨q, rfl⟩ : ∃ q, k = q + 8 := ⟨k - 8, by omega⟩
      have e1 : (q + 8) / 8 = q / 8 + 1 := by omega
      have e2 : (q + 8) % 8 = q % 8 := by omega
      rw [e1, e2, List.set_cons_succ, num_cons_xor, num_cons_xor]
      simp only [List.getD_cons_succ]
      rw [num_flip l q (by simp at h; omega), mul_pow_xor, Nat.pow_add, Nat.xor_assoc]
theorem num_inj : ∀ (a b : List UInt8), a.length = b.length → num a = num b → a = b
  | [], [], _, _ => rfl
  | [], _ :: _, h, _ => by simp at h
  | _ :: _, [], h, _ => by simp at h
  | c :: a, d :: b, h, hn => by
    have hc := c.toNat_lt
    have hd := d.toNat_lt
    simp only [num] at hn
    have e1 : c = d := UInt8.toNat_inj.1 (by omega)
    have e2 : num a = num b := by omega
    rw [e1, num_inj a b (by simpa using h) e2]
end Four
/-- The bits of E up to one of them, laid from a place on. -/
theorem bits_more (E i at_ : Nat) (h : E / 2 ^ i % 2 = 1) : (E % 2 ^ (i + 1)) * 2 ^ at_ = ((E % 2 ^ i) * 2 ^ at_) ^^^ 2 ^ (at_ + i) := by
  have e : E % 2 ^ (i + 1) = E % 2 ^ i + 1 * 2 ^ i := by
    rw [Nat.pow_succ, Nat.mod_mul, h]; omega
  rw [e, ← xor_high _ 1 i (Nat.mod_lt _ (Nat.two_pow_pos _)), Four.mul_pow_xor, Nat.one_mul, Nat.pow_add, Nat.mul_comm (2 ^ at_)]
theorem bits_same (E i : Nat) (h : E / 2 ^ i % 2 = 0) : E % 2 ^ (i + 1) = E % 2 ^ i := by
  rw [Nat.pow_succ, Nat.mod_mul, h]; omega

theorem unf_turned (l m : List UInt8) (E at_ : Nat) (hl : l.length ≤ 1048576) (hlen : m.length = (framed l).length) (hE : E < 4294967296) (hE0 : E ≠ 0) (hat : at_ + 32 ≤ 8 * (framed l).length)
    (hm : Four.num m = Four.num (framed l) ^^^ (E * 2 ^ at_)) : unf m ≠ 0 := by
  intro hu
  have hL := (unf_framed l hl).1
  have hfl := framed_length l
  have hml : m.length = 8 + l.length := by omega
  have ext : ∀ x : List UInt8, x.length = 8 + l.length → unf x = 0 → Four.num ((x.drop 4).take 4) = l.length ∧ Four.num (x.take 4) = Crc.sum (x.drop 4) := by
    intro x hx hux
    unfold unf at hux
    rw [if_neg (by omega)] at hux
    by_cases hf : Four.num ((x.drop 4).take 4) ≠ x.length - 8 ∨ 1048576 < x.length - 8
    · rw [if_pos hf] at hux; cases hux
    rw [if_neg hf] at hux
    by_cases hs : Four.num (x.take 4) ≠ Crc.sum (x.drop 4)
    · rw [if_pos hs] at hux; cases hux
    exact ⟨by omega, by omega⟩
  obtain ⟨m1, m2⟩ := ext m hml hu
  obtain ⟨l1, l2⟩ := ext (framed l) hfl hL
  generalize framed l = L at *
  have hmt := Four.num_take_drop m 4 (by omega)
  have hlt := Four.num_take_drop L 4 (by omega)
  have hmd := Four.num_take_drop (m.drop 4) 4 (by simp; omega)
  have hld := Four.num_take_drop (L.drop 4) 4 (by simp; omega)
  have xd := @Nat.xor_div_two_pow (Four.num L) (E * 2 ^ at_) 32
  have xm := @Nat.xor_mod_two_pow (Four.num L) (E * 2 ^ at_) 32
  rw [← hm] at xd xm
  have d1 : Four.num (m.drop 4) = Four.num (L.drop 4) ^^^ (E * 2 ^ at_ / 2 ^ 32) := by rw [hmt.2, hlt.2]; exact xd
  have t1 : Four.num (m.take 4) = Four.num (L.take 4) ^^^ (E * 2 ^ at_ % 2 ^ 32) := by rw [hmt.1, hlt.1]; exact xm
  by_cases h32 : 32 ≤ at_
  · obtain ⟨s, rfl⟩ : ∃ s, at_ = s + 32 := ⟨at_ - 32, by omega⟩
    rw [Nat.pow_add, ← Nat.mul_assoc, Nat.mul_div_cancel _ (Nat.two_pow_pos _)] at d1
    rw [Nat.pow_add, ← Nat.mul_assoc, Nat.mul_mod_left, Nat.xor_zero] at t1
    refine Crc.burst (l := L.drop 4) (m := m.drop 4) (by simp; omega) hE hE0 (by simp; omega) d1 ?_
    rw [← m2, ← l2, t1]
  · have hF : E * 2 ^ at_ < 2 ^ 64 := by
      have : 2 ^ at_ ≤ 2 ^ 31 := Nat.pow_le_pow_right (by decide) (by omega)
      exact Nat.lt_of_le_of_lt (Nat.mul_le_mul_left E this) (by omega)
    have q0 : E * 2 ^ at_ / 2 ^ 32 = 0 := by
      have k1 : Four.num ((m.drop 4).take 4) = Four.num (m.drop 4) % 2 ^ 32 := hmd.1
      have k2 : Four.num ((L.drop 4).take 4) = Four.num (L.drop 4) % 2 ^ 32 := hld.1
      have k3 := @Nat.xor_mod_two_pow (Four.num (L.drop 4)) (E * 2 ^ at_ / 2 ^ 32) 32
      rw [← d1, ← k1, ← k2, m1, l1] at k3
      have k4 : E * 2 ^ at_ / 2 ^ 32 % 2 ^ 32 = E * 2 ^ at_ / 2 ^ 32 := Nat.mod_eq_of_lt (by omega)
      rw [k4] at k3
      have k5 := congrArg (fun z => l.length ^^^ z) k3
      simp only [← Nat.xor_assoc, Nat.xor_self, Nat.zero_xor] at k5
      exact k5.symm
    have r0 : E * 2 ^ at_ % 2 ^ 32 = 0 := by
      have e1 : m.drop 4 = L.drop 4 := by
        exact Four.num_inj _ _ (by simp; omega) (by rw [d1, q0, Nat.xor_zero])
      rw [m2, e1, ← l2] at t1
      have k5 := congrArg (fun z => Four.num (L.take 4) ^^^ z) t1
      simp only [← Nat.xor_assoc, Nat.xor_self, Nat.zero_xor] at k5
      exact k5.symm
    have z : E * 2 ^ at_ = 0 := by omega
    rcases Nat.mul_eq_zero.1 z with h | h
    · exact hE0 h
    · have := Nat.two_pow_pos at_; omega
end Go.Proofs.Ythegdhbmfojdaaa.Wi
