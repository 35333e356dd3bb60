/- Plain mathematics: the sum of bytes in which up to 32 bits side by side were changed is another one. No program is named here. -/
import Derived.Test.YthegdhbmfojdaaaWMath
namespace Go.Proofs.Ythegdhbmfojdaaa.Wi
namespace Crc
theorem eq_of_xor {x y : Nat} (h : x ^^^ y = 0) : x = y := by
  have := congrArg (fun z => z ^^^ y) h
  simp only [Nat.xor_assoc, Nat.xor_self, Nat.xor_zero, Nat.zero_xor] at this
  exact this
theorem xor_high (a b n : Nat) (h : a < 2 ^ n) : a ^^^ (b * 2 ^ n) = a + b * 2 ^ n := by
  have h1 := @Nat.xor_mod_two_pow a (b * 2 ^ n) n
  have h2 := @Nat.xor_div_two_pow a (b * 2 ^ n) n
  rw [Nat.mul_mod_left, Nat.xor_zero, Nat.mod_eq_of_lt h] at h1
  rw [Nat.mul_div_cancel _ (Nat.two_pow_pos n), Nat.div_eq_of_lt h, Nat.zero_xor] at h2
  have h3 := Nat.div_add_mod (a ^^^ (b * 2 ^ n)) (2 ^ n)
  rw [h1, h2] at h3
  rw [← h3, Nat.mul_comm, Nat.add_comm]
theorem mv_xor (a b : Nat) : mv (a ^^^ b) = mv a ^^^ mv b := by
  have h := @Nat.xor_mod_two_eq_one a b
  have e : poly * ((a ^^^ b) % 2) = (poly * (a % 2)) ^^^ (poly * (b % 2)) := by
    have ha : a % 2 = 0 ∨ a % 2 = 1 := by omega
    have hb : b % 2 = 0 ∨ b % 2 = 1 := by omega
    have hx : (a ^^^ b) % 2 = (a % 2 + b % 2) % 2 := by omega
    rcases ha with ha | ha <;> rcases hb with hb | hb <;> rw [hx, ha, hb] <;> simp
  unfold mv
  rw [Nat.xor_div_two, e]
  generalize a / 2 = p; generalize b / 2 = q; generalize poly * (a % 2) = r; generalize poly * (b % 2) = s
  rw [Nat.xor_assoc, Nat.xor_assoc, ← Nat.xor_assoc q r s, Nat.xor_comm q r, Nat.xor_assoc r q s]
theorem mvs_xor (a b : Nat) : ∀ j, mvs j (a ^^^ b) = mvs j a ^^^ mvs j b
  | 0 => rfl
  | j + 1 => by simp only [mvs]; rw [mvs_xor a b j, mv_xor]
theorem mv_two (a : Nat) : mv (2 * a) = a := by simp [mv]
theorem mvs_add (x : Nat) : ∀ j k, mvs (j + k) x = mvs j (mvs k x)
  | 0, k => by simp [mvs]
  | j + 1, k => by rw [Nat.add_right_comm]; simp only [mvs]; rw [mvs_add x j k]
theorem mvs_pow (a : Nat) : ∀ s, mvs s (a * 2 ^ s) = a
  | 0 => by simp [mvs]
  | s + 1 => by
    rw [mvs_add _ s 1]
    have : mvs 1 (a * 2 ^ (s + 1)) = a * 2 ^ s := by
      show mv (a * 2 ^ (s + 1)) = _
      rw [Nat.pow_succ, ← Nat.mul_assoc, Nat.mul_comm _ 2, mv_two]
    rw [this, mvs_pow a s]
theorem mv_zero {x : Nat} (h : x < 4294967296) (h0 : mv x = 0) : x = 0 := by
  unfold mv at h0
  have e : x / 2 = poly * (x % 2) := eq_of_xor h0
  unfold poly at e
  omega
theorem mvs_zero {x : Nat} (h : x < 4294967296) : ∀ j, mvs j x = 0 → x = 0
  | 0, h0 => h0
  | j + 1, h0 => mvs_zero h j (mv_zero (mvs_lt h j) h0)
theorem num_cons_xor (c : UInt8) (l : List UInt8) : Four.num (c :: l) = c.toNat ^^^ (Four.num l * 2 ^ 8) := by
  rw [xor_high _ _ 8 c.toNat_lt]
  simp [Four.num]; omega
theorem foldl_num : ∀ (l : List UInt8) (x : Nat), l.foldl (fun x c => byte x c.toNat) x = mvs (8 * l.length) (x ^^^ Four.num l)
  | [], x => by simp [mvs, Four.num]
  | c :: l, x => by
    rw [List.foldl_cons, foldl_num l, List.length_cons, Nat.mul_add, Nat.mul_one, mvs_add]
    congr 1
    rw [num_cons_xor, ← Nat.xor_assoc, mvs_xor, mvs_pow]
    rfl
theorem sum_num (l : List UInt8) : sum l = mvs (8 * l.length) (4294967295 ^^^ Four.num l) ^^^ 4294967295 := by
  unfold sum run; rw [foldl_num]
/-- A burst changes the sum. -/
theorem burst {l m : List UInt8} {E s : Nat} (hlen : m.length = l.length) (hE : E < 4294967296) (hE0 : E ≠ 0) (hs : s ≤ 8 * l.length) (hm : Four.num m = Four.num l ^^^ (E * 2 ^ s)) : sum m ≠ sum l := by
  intro he
  rw [sum_num, sum_num, hlen, hm, ← Nat.xor_assoc, mvs_xor _ (E * 2 ^ s)] at he
  generalize mvs (8 * l.length) (4294967295 ^^^ Four.num l) = A at he
  generalize hB : mvs (8 * l.length) (E * 2 ^ s) = B at he
  have h1 : B = 0 := by
    have := congrArg (fun z => A ^^^ (z ^^^ 4294967295)) he
    simp only [Nat.xor_assoc, Nat.xor_self, Nat.xor_zero] at this
    rw [← Nat.xor_assoc, Nat.xor_self, Nat.zero_xor] at this
    exact this
  rw [← hB] at h1
  have e : 8 * l.length = (8 * l.length - s) + s := by omega
  rw [e, mvs_add, mvs_pow] at h1
  exact hE0 (mvs_zero hE _ h1)
end Crc
end Go.Proofs.Ythegdhbmfojdaaa.Wi
