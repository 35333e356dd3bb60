/- Plain mathematics of the sum: one move of the register, eight moves a byte, over any bytes. No program is named here. -/
import Derived.WalkKit
import Derived.Laws.BitsAllLaws
namespace Go.Proofs.Ytpdlioidiobbbaa
namespace Crc
def poly : Nat := 3988292384
def mv (x : Nat) : Nat := (x / 2) ^^^ (poly * (x % 2))
def mvs : Nat → Nat → Nat
  | 0, x => x
  | j + 1, x => mv (mvs j x)
def byte (x c : Nat) : Nat := mvs 8 (x ^^^ c)
def run (l : List UInt8) : Nat := l.foldl (fun x c => byte x c.toNat) 4294967295
def sum (l : List UInt8) : Nat := run l ^^^ 4294967295

theorem mv_lt {x : Nat} (h : x < 4294967296) : mv x < 4294967296 := by
  have h1 : x / 2 < 2 ^ 32 := by omega
  have h2 : poly * (x % 2) < 2 ^ 32 := by unfold poly; omega
  exact Nat.xor_lt_two_pow h1 h2
theorem mvs_lt {x : Nat} (h : x < 4294967296) : ∀ j, mvs j x < 4294967296
  | 0 => h
  | j + 1 => mv_lt (mvs_lt h j)
theorem byte_lt {x c : Nat} (h : x < 4294967296) (hc : c < 256) : byte x c < 4294967296 := by
  have h1 : x ^^^ c < 2 ^ 32 := Nat.xor_lt_two_pow (by omega) (by omega)
  exact mvs_lt (by omega) 8
theorem foldl_lt : ∀ (l : List UInt8) (x : Nat), x < 4294967296 → l.foldl (fun x c => byte x c.toNat) x < 4294967296
  | [], _, h => h
  | c :: l, _, h => foldl_lt l _ (byte_lt h c.toNat_lt)
theorem run_lt (l : List UInt8) : run l < 4294967296 := foldl_lt l _ (by omega)
theorem sum_lt (l : List UInt8) : sum l < 4294967296 := by
  have h1 : run l ^^^ 4294967295 < 2 ^ 32 := Nat.xor_lt_two_pow (run_lt l) (by omega)
  exact h1
theorem run_snoc (l : List UInt8) (c : UInt8) : run (l ++ [c]) = byte (run l) c.toNat := by simp [run]
/- The walk's own forms. -/
theorem xor_u32 {x c : Nat} (hx : x < 4294967296) (hc : c < 256) : bits .xor .u32 (x : Int) ((c : Int) % 4294967296) = ((x ^^^ c : Nat) : Int) := by
  have e : (c : Int) % 4294967296 = (c : Int) := by omega
  rw [e]; exact u32_xor_nat x c hx (by omega)
theorem and_one {x : Nat} (hx : x < 4294967296) : bits .and .u32 (x : Int) 1 = ((x % 2 : Nat) : Int) := by
  have := u32_and_nat x 1 hx (by omega)
  rw [Nat.and_one_is_mod] at this; exact this
theorem mv_u32 {x : Nat} (hx : x < 4294967296) : bits .xor .u32 ((x : Int) / 2) ((3988292384 * bits .and .u32 (x : Int) 1) % 4294967296) = ((mv x : Nat) : Int) := by
  rw [and_one hx]
  have e : (3988292384 * ((x % 2 : Nat) : Int)) % 4294967296 = ((poly * (x % 2) : Nat) : Int) := by unfold poly; omega
  have e2 : (x : Int) / 2 = ((x / 2 : Nat) : Int) := by omega
  rw [e, e2]
  exact u32_xor_nat _ _ (by omega) (by unfold poly; omega)
theorem not_u32 {x : Nat} (hx : x < 4294967296) : bits .xor .u32 4294967295 (x : Int) = ((x ^^^ 4294967295 : Nat) : Int) := by
  rw [Nat.xor_comm]; exact u32_xor_nat 4294967295 x (by omega) hx
end Crc
namespace Num
/-- A number from 0 on as bytes, with so many bytes more at most. -/
def uvF : Nat → Nat → List UInt8
  | 0, n => [UInt8.ofNat n]
  | f + 1, n => if n < 128 then [UInt8.ofNat n] else UInt8.ofNat (n % 128 + 128) :: uvF f (n / 128)
def uv (n : Nat) : List UInt8 := uvF 9 n
theorem uvF_small (f n : Nat) (h : n < 128) : uvF f n = [UInt8.ofNat n] := by cases f <;> simp [uvF, h]
theorem uvF_great (f n : Nat) (h : 128 ≤ n) : uvF (f + 1) n = UInt8.ofNat (n % 128 + 128) :: uvF f (n / 128) := by simp [uvF, show ¬ n < 128 by omega]
theorem uvF_length : ∀ f n, (uvF f n).length ≤ f + 1
  | 0, _ => by simp [uvF]
  | f + 1, n => by
    have := uvF_length f (n / 128)
    unfold uvF; split <;> simp; omega
theorem uv_length (n : Nat) : (uv n).length ≤ 10 := uvF_length 9 n
theorem uvF_pos (f n : Nat) : 0 < (uvF f n).length := by cases f <;> unfold uvF <;> (try split) <;> simp
end Num
namespace Four
/-- The byte of place j of a number, its lowest one first. -/
def at_ (n j : Nat) : UInt8 := UInt8.ofNat (n / 2 ^ (8 * j))
def le4 (n : Nat) : List UInt8 := [at_ n 0, at_ n 1, at_ n 2, at_ n 3]
theorem at_nat (n j : Nat) : (at_ n j).toNat = n / 2 ^ (8 * j) % 256 := by simp [at_, UInt8.toNat_ofNat']
/-- The number of bytes, the lowest one first. -/
def num : List UInt8 → Nat
  | [] => 0
  | c :: l => c.toNat + 256 * num l
theorem num_le4 (n : Nat) (h : n < 4294967296) : num (le4 n) = n := by
  simp only [le4, num, at_nat]
  omega
theorem num_lt (l : List UInt8) (h : l.length = 4) : num l < 4294967296 := by
  match l, h with
  | [a, b, c, d], _ =>
    have ha := a.toNat_lt; have hb := b.toNat_lt; have hc := c.toNat_lt; have hd := d.toNat_lt
    simp only [num]; omega
theorem le4_length (n : Nat) : (le4 n).length = 4 := rfl
theorem num_snoc : ∀ (l : List UInt8) (c : UInt8), num (l ++ [c]) = num l + c.toNat * 2 ^ (8 * l.length)
  | [], c => by simp [num]
  | d :: l, c => by
    have h := num_snoc l c
    simp only [List.cons_append, num, List.length_cons, h]
    have e : 2 ^ (8 * (l.length + 1)) = 256 * 2 ^ (8 * l.length) := by rw [Nat.mul_add, Nat.pow_add, Nat.mul_comm]
    rw [e, Nat.mul_add, Nat.add_assoc]
    congr 2
    rw [← Nat.mul_assoc, ← Nat.mul_assoc, Nat.mul_comm 256]
theorem num_lt_pow : ∀ (l : List UInt8), num l < 2 ^ (8 * l.length)
  | [] => by simp [num]
  | d :: l => by
    have h := num_lt_pow l
    have hd := d.toNat_lt
    have e : 2 ^ (8 * (l.length + 1)) = 256 * 2 ^ (8 * l.length) := by rw [Nat.mul_add, Nat.pow_add, Nat.mul_comm]
    simp only [num, List.length_cons]
    rw [e]
    omega
theorem or_step (n c k : Nat) (hn : n < 2 ^ (8 * k)) (hc : c < 256) (hk : k < 4) :
    bits .or .u32 (n : Int) ((c : Int) % 4294967296 * 2 ^ (8 * k) % 4294967296) = ((n + c * 2 ^ (8 * k) : Nat) : Int) := by
  have hp : 2 ^ (8 * k) ≤ 16777216 := by
    have : 2 ^ (8 * k) ≤ 2 ^ 24 := Nat.pow_le_pow_right (by decide) (by omega)
    simpa using this
  have hm : c * 2 ^ (8 * k) ≤ 255 * 16777216 := Nat.mul_le_mul (by omega) hp
  have e1 : (c : Int) % 4294967296 = (c : Int) := by omega
  have e2 : (c : Int) * 2 ^ (8 * k) = ((c * 2 ^ (8 * k) : Nat) : Int) := by simp
  have e3 : ((c * 2 ^ (8 * k) : Nat) : Int) % 4294967296 = ((c * 2 ^ (8 * k) : Nat) : Int) := Int.emod_eq_of_lt (by omega) (by omega)
  rw [e1, e2, e3, u32_or_nat _ _ (by omega) (by omega)]
  have h := Nat.shiftLeft_add_eq_or_of_lt hn c
  rw [Nat.shiftLeft_eq] at h
  rw [Nat.or_comm, ← h, Nat.add_comm]
theorem num_take (l : List UInt8) (k : Nat) (h : k < l.length) (hk : k < 4) :
    bits .or .u32 (num (l.take k) : Int) ((l[k].toNat : Int) % 4294967296 * 2 ^ (8 * k) % 4294967296) = ((num (l.take (k + 1)) : Nat) : Int) := by
  have hl : (l.take k).length = k := by simp; omega
  rw [List.take_succ_eq_append_getElem h, num_snoc, hl]
  refine or_step _ _ k ?_ l[k].toNat_lt hk
  have := num_lt_pow (l.take k)
  rw [hl] at this; exact this
end Four
end Go.Proofs.Ytpdlioidiobbbaa

namespace Go.Proofs.Ytpdlioidiobbbaa
namespace Rd
/-- A number out of bytes, behind i bytes that gave n so far: the number, the bytes that it took, the error. -/
def uvR : List UInt8 → Nat → Nat → Nat × Nat × Nat
  | [], _, _ => (0, 0, 10)
  | c :: r, i, n =>
    if (i = 9 ∧ 1 < c.toNat) ∨ (0 < i ∧ c.toNat = 0) then (0, 0, 12)
    else if c.toNat < 128 then (n + c.toNat % 128 * 2 ^ (7 * i), i + 1, 0)
    else uvR r (i + 1) (n + c.toNat % 128 * 2 ^ (7 * i))
theorem uvR_bad (c : UInt8) (r : List UInt8) (i n : Nat) (h : (i = 9 ∧ 1 < c.toNat) ∨ (0 < i ∧ c.toNat = 0)) : uvR (c :: r) i n = (0, 0, 12) := by
  unfold uvR; rw [if_pos h]
theorem uvR_last (c : UInt8) (r : List UInt8) (i n : Nat) (h : ¬ ((i = 9 ∧ 1 < c.toNat) ∨ (0 < i ∧ c.toNat = 0))) (hc : c.toNat < 128) : uvR (c :: r) i n = (n + c.toNat % 128 * 2 ^ (7 * i), i + 1, 0) := by
  unfold uvR; rw [if_neg h, if_pos hc]
theorem uvR_more (c : UInt8) (r : List UInt8) (i n : Nat) (h : ¬ ((i = 9 ∧ 1 < c.toNat) ∨ (0 < i ∧ c.toNat = 0))) (hc : ¬ c.toNat < 128) : uvR (c :: r) i n = uvR r (i + 1) (n + c.toNat % 128 * 2 ^ (7 * i)) := by
  conv => lhs; unfold uvR
  rw [if_neg h, if_neg hc]
/-- What a call answers, where it is then, and its first error. -/
def uS (l : List UInt8) (p e : Nat) : Nat × Nat × Nat :=
  if e ≠ 0 then (0, p, e) else
    let x := uvR (l.drop p) 0 0
    if x.2.2 = 0 then (x.1, p + x.2.1, 0) else (0, p, x.2.2)
/-- The bound on the bits so far, and how one byte more is laid. -/
theorem or_u64 (n c k : Nat) (hn : n < 2 ^ (7 * k)) (hc : c < 128) (hk : k ≤ 8 ∨ (k = 9 ∧ c ≤ 1)) :
    bits .or .u64 (n : Int) ((c : Int) * 2 ^ (7 * k) % 18446744073709551616) = ((n + c * 2 ^ (7 * k) : Nat) : Int) ∧ n + c * 2 ^ (7 * k) < 18446744073709551616 := by
  have hm : n + c * 2 ^ (7 * k) < 18446744073709551616 := by
    rcases hk with hk | ⟨rfl, hc1⟩
    · have hp : 2 ^ (7 * k) ≤ 2 ^ 56 := Nat.pow_le_pow_right (by decide) (by omega)
      have h1 : c * 2 ^ (7 * k) ≤ 127 * 2 ^ 56 := Nat.mul_le_mul (by omega) hp
      omega
    · have h1 : c * 2 ^ (7 * 9) ≤ 1 * 2 ^ 63 := Nat.mul_le_mul hc1 (by decide)
      omega
  refine ⟨?_, hm⟩
  have hcm : c * 2 ^ (7 * k) < 18446744073709551616 := by omega
  have e2 : (c : Int) * 2 ^ (7 * k) = ((c * 2 ^ (7 * k) : Nat) : Int) := by simp
  have e3 : ((c * 2 ^ (7 * k) : Nat) : Int) % 18446744073709551616 = ((c * 2 ^ (7 * k) : Nat) : Int) := Int.emod_eq_of_lt (Int.natCast_nonneg _) (by omega)
  rw [e2, e3, u64_or_nat _ _ (by omega) hcm]
  have h := Nat.shiftLeft_add_eq_or_of_lt hn c
  rw [Nat.shiftLeft_eq] at h
  rw [Nat.or_comm, ← h, Nat.add_comm]
theorem next_lt (n c k : Nat) (hn : n < 2 ^ (7 * k)) (hc : c < 128) : n + c * 2 ^ (7 * k) < 2 ^ (7 * (k + 1)) := by
  have e : 2 ^ (7 * (k + 1)) = 128 * 2 ^ (7 * k) := by rw [Nat.mul_add, Nat.pow_add, Nat.mul_comm]
  have h1 : c * 2 ^ (7 * k) ≤ 127 * 2 ^ (7 * k) := Nat.mul_le_mul_right _ (by omega)
  rw [e]; omega
theorem uvR_bound : ∀ (s : List UInt8) (i n : Nat), n < 2 ^ (7 * i) → i ≤ 9 → (uvR s i n).1 < 18446744073709551616 ∧ (uvR s i n).2.1 ≤ i + s.length
  | [], _, _, _, _ => by simp [uvR]
  | c :: r, i, n, hn, hi => by
    by_cases h : (i = 9 ∧ 1 < c.toNat) ∨ (0 < i ∧ c.toNat = 0)
    · rw [uvR_bad c r i n h]; simp
    · by_cases hc : c.toNat < 128
      · rw [uvR_last c r i n h hc]
        have := (or_u64 n (c.toNat % 128) i hn (Nat.mod_lt _ (by decide)) (by omega)).2
        simp only [List.length_cons]
        exact ⟨this, by omega⟩
      · rw [uvR_more c r i n h hc]
        have := uvR_bound r (i + 1) _ (next_lt n (c.toNat % 128) i hn (Nat.mod_lt _ (by decide))) (by omega)
        simp only [List.length_cons]
        exact ⟨this.1, by omega⟩
theorem uS_lt (l : List UInt8) (p e : Nat) : (uS l p e).1 < 18446744073709551616 := by
  have h := uvR_bound (l.drop p) 0 0 (by decide) (by omega)
  unfold uS
  split
  · simp
  · simp only
    split
    · exact h.1
    · simp
theorem uS_le (l : List UInt8) (p e : Nat) (hp : p ≤ l.length) : (uS l p e).2.1 ≤ l.length := by
  have h := uvR_bound (l.drop p) 0 0 (by decide) (by omega)
  have hl : (l.drop p).length = l.length - p := List.length_drop
  unfold uS
  split
  · exact hp
  · simp only
    split
    · show p + _ ≤ _
      omega
    · exact hp
end Rd
end Go.Proofs.Ytpdlioidiobbbaa

namespace Go.Proofs.Ytpdlioidiobbbaa
namespace Rd
open Num

theorem ofNat_small (n : Nat) (h : n < 256) : (UInt8.ofNat n).toNat = n := by simp [UInt8.toNat_ofNat']; omega
/-- What was written is read. -/
theorem uvR_read : ∀ (f n i acc : Nat) (r : List UInt8), f + i = 9 → n * 2 ^ (7 * i) < 2 ^ 64 → (0 < i → 0 < n) → uvR (uvF f n ++ r) i acc = (acc + n * 2 ^ (7 * i), i + (uvF f n).length, 0)
  | 0, n, i, acc, r, hf, hn, h0 => by
    obtain rfl : i = 9 := by omega
    have h1 : n ≤ 1 := by
      have : n * 2 ^ 63 < 2 * 2 ^ 63 := by simpa using hn
      have := Nat.lt_of_mul_lt_mul_right this
      omega
    have hc := ofNat_small n (by omega)
    rw [uvF_small 0 n (by omega)]
    rw [List.singleton_append, uvR_last _ _ _ _ (by rw [hc]; rintro (⟨_, h⟩ | ⟨_, h⟩) <;> have := h0 (by omega) <;> omega) (by rw [hc]; omega), hc, Nat.mod_eq_of_lt (by omega)]
    rfl
  | f + 1, n, i, acc, r, hf, hn, h0 => by
    by_cases hs : n < 128
    · have hc := ofNat_small n (by omega)
      rw [uvF_small _ n hs, List.singleton_append, uvR_last _ _ _ _ (by rw [hc]; rintro (⟨h, _⟩ | ⟨h, h'⟩) <;> (try have := h0 h) <;> omega) (by rw [hc]; omega), hc, Nat.mod_eq_of_lt hs]
      rfl
    · have hc := ofNat_small (n % 128 + 128) (by omega)
      have hp : 2 ^ (7 * (i + 1)) = 2 ^ (7 * i) * 128 := by rw [Nat.mul_add, Nat.pow_add]
      have hd : n / 128 * 2 ^ (7 * (i + 1)) ≤ n * 2 ^ (7 * i) := by
        rw [hp, ← Nat.mul_assoc, Nat.mul_right_comm]
        exact Nat.mul_le_mul_right _ (by omega)
      rw [uvF_great f n (by omega), List.cons_append, uvR_more _ _ _ _ (by rw [hc]; omega) (by rw [hc]; omega), hc,
        uvR_read f (n / 128) (i + 1) _ r (by omega) (by omega) (fun _ => by omega)]
      have e1 : (n % 128 + 128) % 128 = n % 128 := by omega
      have e2 : n % 128 * 2 ^ (7 * i) + n / 128 * 2 ^ (7 * (i + 1)) = n * 2 ^ (7 * i) := by
        rw [hp, ← Nat.mul_assoc, Nat.mul_right_comm, ← Nat.add_mul]
        congr 1
        omega
      rw [e1, Nat.add_assoc, e2, List.length_cons]
      congr 2
      omega
/-- What is read was so written. -/
theorem uvR_canon : ∀ (s : List UInt8) (i acc v k : Nat), uvR s i acc = (v, k, 0) → i ≤ 9 → ∃ n, v = acc + n * 2 ^ (7 * i) ∧ i < k ∧ k ≤ i + s.length ∧ s.take (k - i) = uvF (9 - i) n ∧ (0 < i → 0 < n)
  | [], i, acc, v, k, h, _ => by simp [uvR] at h
  | c :: r, i, acc, v, k, h, hi => by
    by_cases hb : (i = 9 ∧ 1 < c.toNat) ∨ (0 < i ∧ c.toNat = 0)
    · rw [uvR_bad c r i acc hb] at h
      simp at h
    · have hcc : UInt8.ofNat c.toNat = c := by simp
      by_cases hc : c.toNat < 128
      · rw [uvR_last c r i acc hb hc] at h
        simp only [Prod.mk.injEq, and_true] at h
        obtain ⟨rfl, rfl⟩ := h
        refine ⟨c.toNat, by rw [Nat.mod_eq_of_lt hc], by omega, by simp, ?_, fun h0 => by omega⟩
        rw [show i + 1 - i = 1 by omega, uvF_small _ _ hc, hcc]
        rfl
      · rw [uvR_more c r i acc hb hc] at h
        have hi9 : i < 9 := by omega
        obtain ⟨n, h1, h2, h3, h4, h5⟩ := uvR_canon r (i + 1) _ v k h (by omega)
        have hn := h5 (by omega)
        have hlt := c.toNat_lt
        refine ⟨c.toNat % 128 + 128 * n, ?_, by omega, by simp; omega, ?_, fun _ => by omega⟩
        · rw [h1, Nat.add_mul, Nat.mul_add 7, Nat.pow_add, Nat.add_assoc]
          congr 2
          rw [Nat.mul_comm 128 n, Nat.mul_assoc, Nat.mul_comm (2 ^ (7 * i))]
        · obtain ⟨f, hf⟩ : ∃ f, 9 - i = f + 1 := ⟨9 - i - 1, by omega⟩
          have hf' : 9 - (i + 1) = f := by omega
          rw [hf, uvF_great f _ (by omega), show k - i = (k - (i + 1)) + 1 by omega, List.take_succ_cons, h4, hf']
          congr 1
          · rw [show (c.toNat % 128 + 128 * n) % 128 + 128 = c.toNat by omega, hcc]
          · rw [show (c.toNat % 128 + 128 * n) / 128 = n by omega]
theorem uS_write (l r : List UInt8) (p n : Nat) (h : l.drop p = uv n ++ r) (hn : n < 2 ^ 64) : uS l p 0 = (n, p + (uv n).length, 0) := by
  have := uvR_read 9 n 0 0 r rfl (by simpa using hn) (by omega)
  unfold uS
  rw [if_neg (by simp), h]
  unfold uv
  rw [this]
  simp
theorem uS_canon (l : List UInt8) (p n p' : Nat) (h : uS l p 0 = (n, p', 0)) : p < p' ∧ p' ≤ p + (l.drop p).length ∧ l.drop p = uv n ++ l.drop p' := by
  unfold uS at h
  rw [if_neg (by simp)] at h
  obtain ⟨v, k, e, hx⟩ : ∃ v k e, uvR (l.drop p) 0 0 = (v, k, e) := ⟨_, _, _, rfl⟩
  simp only [hx] at h
  by_cases he : e = 0
  · subst he
    simp at h
    obtain ⟨rfl, rfl⟩ := h
    obtain ⟨m, h1, h2, h3, h4, _⟩ := uvR_canon _ 0 0 v k hx (by omega)
    simp at h1 h4
    subst h1
    refine ⟨by omega, by omega, ?_⟩
    rw [show uv v = uvF 9 v from rfl, ← h4, ← List.drop_drop]
    exact (List.take_append_drop k _).symm
  · rw [if_neg he] at h
    simp at h
    omega
end Rd
end Go.Proofs.Ytpdlioidiobbbaa
