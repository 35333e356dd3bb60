/- Plain mathematics of the sum: one move of the register, eight moves a byte, over any bytes. No program is named here. -/
import Derived.WalkKit
import Derived.Laws.BitsAllLaws
namespace Go.Proofs.Ythegdhbmfojdaaa.Wi
namespace Crc
def poly : Nat := 3988292384
def mv (x : Nat) : Nat := (x / 2) ^^^ (poly * (x % 2))
def mvs : Nat → Nat → Nat
  | 0, x => x
  | j + 1, x => mv (mvs j x)
def byte (x c : Nat) : Nat := mvs 8 (x ^^^ c)
def run (l : List UInt8) : Nat := l.foldl (fun x c => byte x c.toNat) 4294967295
def sum (l : List UInt8) : Nat := run l ^^^ 4294967295

theorem mv_lt {x : Nat} (h : x < 4294967296) : mv x < 4294967296 := by
  have h1 : x / 2 < 2 ^ 32 := by omega
  have h2 : poly * (x % 2) < 2 ^ 32 := by unfold poly; omega
  exact Nat.xor_lt_two_pow h1 h2
theorem mvs_lt {x : Nat} (h : x < 4294967296) : ∀ j, mvs j x < 4294967296
  | 0 => h
  | j + 1 => mv_lt (mvs_lt h j)
theorem byte_lt {x c : Nat} (h : x < 4294967296) (hc : c < 256) : byte x c < 4294967296 := by
  have h1 : x ^^^ c < 2 ^ 32 := Nat.xor_lt_two_pow (by omega) (by omega)
  exact mvs_lt (by omega) 8
theorem foldl_lt : ∀ (l : List UInt8) (x : Nat), x < 4294967296 → l.foldl (fun x c => byte x c.toNat) x < 4294967296
  | [], _, h => h
  | c :: l, _, h => foldl_lt l _ (byte_lt h c.toNat_lt)
theorem run_lt (l : List UInt8) : run l < 4294967296 := foldl_lt l _ (by omega)
theorem sum_lt (l : List UInt8) : sum l < 4294967296 := by
  have h1 : run l ^^^ 4294967295 < 2 ^ 32 := Nat.xor_lt_two_pow (run_lt l) (by omega)
  exact h1
theorem run_snoc (l : List UInt8) (c : UInt8) : run (l ++ [c]) = byte (run l) c.toNat := by simp [run]
/- The walk's own forms. -/
theorem xor_u32 {x c : Nat} (hx : x < 4294967296) (hc : c < 256) : bits .xor .u32 (x : Int) ((c : Int) % 4294967296) = ((x ^^^ c : Nat) : Int) := by
  have e : (c : Int) % 4294967296 = (c : Int) := by omega
  rw [e]; exact u32_xor_nat x c hx (by omega)
theorem and_one {x : Nat} (hx : x < 4294967296) : bits .and .u32 (x : Int) 1 = ((x % 2 : Nat) : Int) := by
  have := u32_and_nat x 1 hx (by omega)
  rw [Nat.and_one_is_mod] at this; exact this
theorem mv_u32 {x : Nat} (hx : x < 4294967296) : bits .xor .u32 ((x : Int) / 2) ((3988292384 * bits .and .u32 (x : Int) 1) % 4294967296) = ((mv x : Nat) : Int) := by
  rw [and_one hx]
  have e : (3988292384 * ((x % 2 : Nat) : Int)) % 4294967296 = ((poly * (x % 2) : Nat) : Int) := by unfold poly; omega
  have e2 : (x : Int) / 2 = ((x / 2 : Nat) : Int) := by omega
  rw [e, e2]
  exact u32_xor_nat _ _ (by omega) (by unfold poly; omega)
theorem not_u32 {x : Nat} (hx : x < 4294967296) : bits .xor .u32 4294967295 (x : Int) = ((x ^^^ 4294967295 : Nat) : Int) := by
  rw [Nat.xor_comm]; exact u32_xor_nat 4294967295 x (by omega) hx
theorem div_cast (c j : Nat) (hc : c < 256) : (c : Int) / 2 ^ j % 4294967296 = ((c / 2 ^ j : Nat) : Int) := by
  have h1 : c / 2 ^ j ≤ c := Nat.div_le_self _ _
  have h2 : (c : Int) / 2 ^ j = ((c / 2 ^ j : Nat) : Int) := by simp
  rw [h2]
  generalize c / 2 ^ j = q at h1
  omega
theorem pre_lt {x c : Nat} (h : x < 4294967296) (hc : c < 256) (j : Nat) : mvs j (x ^^^ c) < 4294967296 := by
  have h1 : x ^^^ c < 2 ^ 32 := Nat.xor_lt_two_pow (by omega) (by omega)
  exact mvs_lt (by omega) j
theorem xor_lt {y d : Nat} (hy : y < 4294967296) (hd : d < 4294967296) : y ^^^ d < 4294967296 := by
  have h1 : y ^^^ d < 2 ^ 32 := Nat.xor_lt_two_pow (by omega) (by omega)
  exact h1
theorem odd_xor (y d : Nat) : (y ^^^ d) % 2 ≠ d % 2 ↔ y % 2 = 1 := by
  have h := @Nat.xor_mod_two_eq_one y d
  omega
theorem refstep (y d : Nat) (hy : y < 4294967296) (hd : d < 256) :
    (((bits .and .u32 ((y ^^^ d : Nat) : Int) 1 != bits .and .u32 (d : Int) 1) = true) → bits .xor .u32 (((y ^^^ d : Nat) : Int) / 2) 3988292384 = ((mv y ^^^ (d / 2) : Nat) : Int))
    ∧ (((bits .and .u32 ((y ^^^ d : Nat) : Int) 1 != bits .and .u32 (d : Int) 1) = false) → ((y ^^^ d : Nat) : Int) / 2 = ((mv y ^^^ (d / 2) : Nat) : Int)) := by
  rw [and_one (xor_lt hy (by omega)), and_one (by omega)]
  have ho := odd_xor y d
  have e2 : ((y ^^^ d : Nat) : Int) / 2 = (((y ^^^ d) / 2 : Nat) : Int) := by omega
  rw [e2, Nat.xor_div_two]
  constructor
  · intro h
    have h' : (y ^^^ d) % 2 ≠ d % 2 := by
      intro e; rw [e] at h; simp at h
    have h1 : y % 2 = 1 := ho.1 h'
    have hx : bits .xor .u32 ((y / 2 ^^^ d / 2 : Nat) : Int) (3988292384 : Nat) = (((y / 2 ^^^ d / 2) ^^^ 3988292384 : Nat) : Int) := u32_xor_nat _ _ (xor_lt (by omega) (by omega)) (by omega)
    refine hx.trans ?_
    have e : mv y = (y / 2) ^^^ 3988292384 := by unfold mv poly; rw [h1]
    rw [e, Nat.xor_assoc, Nat.xor_assoc, Nat.xor_comm (d / 2)]
  · intro h
    have h' : ¬ ((y ^^^ d) % 2 ≠ d % 2) := by
      intro hne
      have : ((((y ^^^ d) % 2 : Nat) : Int) != ((d % 2 : Nat) : Int)) = true := by rw [bne_iff_ne]; omega
      rw [this] at h; cases h
    have h1 : y % 2 = 0 := by have := mt ho.2 h'; omega
    have e : mv y = y / 2 := by unfold mv poly; rw [h1]; simp
    rw [e]
theorem refstep_yes {x c j : Nat} (hx : x < 4294967296) (hc : c < 256)
    (h : (bits .and .u32 ((mvs j (x ^^^ c) ^^^ c / 2 ^ j : Nat) : Int) 1 != bits .and .u32 ((c : Int) / 2 ^ j % 4294967296) 1) = true) :
    bits .xor .u32 (((mvs j (x ^^^ c) ^^^ c / 2 ^ j : Nat) : Int) / 2) 3988292384 = ((mvs (j + 1) (x ^^^ c) ^^^ c / 2 ^ (j + 1) : Nat) : Int) := by
  rw [div_cast c j hc] at h
  rw [Nat.pow_succ, ← Nat.div_div_eq_div_mul]
  exact (refstep _ _ (pre_lt hx hc j) (Nat.lt_of_le_of_lt (Nat.div_le_self _ _) hc)).1 h
theorem refstep_no {x c j : Nat} (hx : x < 4294967296) (hc : c < 256)
    (h : (bits .and .u32 ((mvs j (x ^^^ c) ^^^ c / 2 ^ j : Nat) : Int) 1 != bits .and .u32 ((c : Int) / 2 ^ j % 4294967296) 1) = false) :
    ((mvs j (x ^^^ c) ^^^ c / 2 ^ j : Nat) : Int) / 2 = ((mvs (j + 1) (x ^^^ c) ^^^ c / 2 ^ (j + 1) : Nat) : Int) := by
  rw [div_cast c j hc] at h
  rw [Nat.pow_succ, ← Nat.div_div_eq_div_mul]
  exact (refstep _ _ (pre_lt hx hc j) (Nat.lt_of_le_of_lt (Nat.div_le_self _ _) hc)).2 h
theorem ref_start (x c : Nat) : ((x : Nat) : Int) = ((mvs 0 (x ^^^ c) ^^^ c / 2 ^ 0 : Nat) : Int) := by
  have : mvs 0 (x ^^^ c) ^^^ c / 2 ^ 0 = x := by show (x ^^^ c) ^^^ c / 1 = x; rw [Nat.div_one, Nat.xor_assoc, Nat.xor_self, Nat.xor_zero]
  rw [this]
theorem ref_end (x c : Nat) (hc : c < 256) : ((mvs 8 (x ^^^ c) ^^^ c / 2 ^ 8 : Nat) : Int) = ((byte x c : Nat) : Int) := by
  have : c / 2 ^ 8 = 0 := Nat.div_eq_of_lt (by omega)
  rw [this, Nat.xor_zero]; rfl
theorem fin_u32 {x : Nat} (hx : x < 4294967296) : bits .xor .u32 (x : Int) 4294967295 = ((x ^^^ 4294967295 : Nat) : Int) := u32_xor_nat x 4294967295 hx (by omega)
end Crc
namespace Num
/-- A number from 0 on as bytes, with so many bytes more at most. -/
def uvF : Nat → Nat → List UInt8
  | 0, n => [UInt8.ofNat n]
  | f + 1, n => if n < 128 then [UInt8.ofNat n] else UInt8.ofNat (n % 128 + 128) :: uvF f (n / 128)
def uv (n : Nat) : List UInt8 := uvF 9 n
theorem uvF_small (f n : Nat) (h : n < 128) : uvF f n = [UInt8.ofNat n] := by cases f <;> simp [uvF, h]
theorem uvF_great (f n : Nat) (h : 128 ≤ n) : uvF (f + 1) n = UInt8.ofNat (n % 128 + 128) :: uvF f (n / 128) := by simp [uvF, show ¬ n < 128 by omega]
theorem uvF_length : ∀ f n, (uvF f n).length ≤ f + 1
  | 0, _ => by simp [uvF]
  | f + 1, n => by
    have := uvF_length f (n / 128)
    unfold uvF; split <;> simp; omega
theorem uv_length (n : Nat) : (uv n).length ≤ 10 := uvF_length 9 n
theorem uvF_pos (f n : Nat) : 0 < (uvF f n).length := by cases f <;> unfold uvF <;> (try split) <;> simp
end Num
namespace Four
/-- The byte of place j of a number, its lowest one first. -/
def at_ (n j : Nat) : UInt8 := UInt8.ofNat (n / 2 ^ (8 * j))
def le4 (n : Nat) : List UInt8 := [at_ n 0, at_ n 1, at_ n 2, at_ n 3]
theorem at_nat (n j : Nat) : (at_ n j).toNat = n / 2 ^ (8 * j) % 256 := by simp [at_, UInt8.toNat_ofNat']
/-- The number of bytes, the lowest one first. -/
def num : List UInt8 → Nat
  | [] => 0
  | c :: l => c.toNat + 256 * num l
theorem num_le4 (n : Nat) (h : n < 4294967296) : num (le4 n) = n := by
  simp only [le4, num, at_nat]
  omega
theorem le4_num (a b c d : UInt8) : le4 (num [a, b, c, d]) = [a, b, c, d] := by
  have ha := a.toNat_lt; have hb := b.toNat_lt; have hc := c.toNat_lt; have hd := d.toNat_lt
  simp only [num, le4, List.cons.injEq, and_true]
  refine ⟨?_, ?_, ?_, ?_⟩ <;> apply UInt8.toNat_inj.1 <;> rw [at_nat] <;> simp <;> omega
theorem num_lt (l : List UInt8) (h : l.length = 4) : num l < 4294967296 := by
  match l, h with
  | [a, b, c, d], _ =>
    have ha := a.toNat_lt; have hb := b.toNat_lt; have hc := c.toNat_lt; have hd := d.toNat_lt
    simp only [num]; omega
theorem le4_length (n : Nat) : (le4 n).length = 4 := rfl
theorem num_snoc : ∀ (l : List UInt8) (c : UInt8), num (l ++ [c]) = num l + c.toNat * 2 ^ (8 * l.length)
  | [], c => by simp [num]
  | d :: l, c => by
    have h := num_snoc l c
    simp only [List.cons_append, num, List.length_cons, h]
    have e : 2 ^ (8 * (l.length + 1)) = 256 * 2 ^ (8 * l.length) := by rw [Nat.mul_add, Nat.pow_add, Nat.mul_comm]
    rw [e, Nat.mul_add, Nat.add_assoc]
    congr 2
    rw [← Nat.mul_assoc, ← Nat.mul_assoc, Nat.mul_comm 256]
theorem num_lt_pow : ∀ (l : List UInt8), num l < 2 ^ (8 * l.length)
  | [] => by simp [num]
  | d :: l => by
    have h := num_lt_pow l
    have hd := d.toNat_lt
    have e : 2 ^ (8 * (l.length + 1)) = 256 * 2 ^ (8 * l.length) := by rw [Nat.mul_add, Nat.pow_add, Nat.mul_comm]
    simp only [num, List.length_cons]
    rw [e]
    omega
theorem or_step (n c k : Nat) (hn : n < 2 ^ (8 * k)) (hc : c < 256) (hk : k < 4) :
    bits .or .u32 (n : Int) ((c : Int) % 4294967296 * 2 ^ (8 * k) % 4294967296) = ((n + c * 2 ^ (8 * k) : Nat) : Int) := by
  have hp : 2 ^ (8 * k) ≤ 16777216 := by
    have : 2 ^ (8 * k) ≤ 2 ^ 24 := Nat.pow_le_pow_right (by decide) (by omega)
    simpa using this
  have hm : c * 2 ^ (8 * k) ≤ 255 * 16777216 := Nat.mul_le_mul (by omega) hp
  have e1 : (c : Int) % 4294967296 = (c : Int) := by omega
  have e2 : (c : Int) * 2 ^ (8 * k) = ((c * 2 ^ (8 * k) : Nat) : Int) := by simp
  have e3 : ((c * 2 ^ (8 * k) : Nat) : Int) % 4294967296 = ((c * 2 ^ (8 * k) : Nat) : Int) := Int.emod_eq_of_lt (by omega) (by omega)
  rw [e1, e2, e3, u32_or_nat _ _ (by omega) (by omega)]
  have h := Nat.shiftLeft_add_eq_or_of_lt hn c
  rw [Nat.shiftLeft_eq] at h
  rw [Nat.or_comm, ← h, Nat.add_comm]
theorem num_take (l : List UInt8) (k : Nat) (h : k < l.length) (hk : k < 4) :
    bits .or .u32 (num (l.take k) : Int) ((l[k].toNat : Int) % 4294967296 * 2 ^ (8 * k) % 4294967296) = ((num (l.take (k + 1)) : Nat) : Int) := by
  have hl : (l.take k).length = k := by simp; omega
  rw [List.take_succ_eq_append_getElem h, num_snoc, hl]
  refine or_step _ _ k ?_ l[k].toNat_lt hk
  have := num_lt_pow (l.take k)
  rw [hl] at this; exact this
end Four
end Go.Proofs.Ythegdhbmfojdaaa.Wi
