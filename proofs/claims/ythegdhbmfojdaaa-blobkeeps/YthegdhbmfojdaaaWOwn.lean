/- Contracts of the functions that lay bytes behind bytes: roomBehind, addUint, folded, Uint, Int. -/
import Derived.Test.YthegdhbmfojdaaaWBytes
import Derived.OwnWalk
import Derived.Outline
namespace Go.Proofs.Ythegdhbmfojdaaa.Wi
open Go.RowKit

theorem or_128 (m : Nat) (_h : m < 18446744073709551616) : bits .or .u8 ((m : Int) % 256) 128 = (((UInt8.ofNat (m % 128 + 128)).toNat : Nat) : Int) := by
  have h1 : (UInt8.ofNat (m % 128 + 128)).toNat = m % 128 + 128 := by simp [UInt8.toNat_ofNat']; omega
  have e : (m : Int) % 256 = ((m % 256 : Nat) : Int) := by omega
  have h2 : bits .or .u8 ((m % 256 : Nat) : Int) ((128 : Nat) : Int) = ((m % 256 ||| 128 : Nat) : Int) := u8_or_nat _ _ (by omega) (by omega)
  have h3 : m % 256 ||| 128 = m % 128 + 128 := by
    have a1 : m % 256 ||| 128 = 128 * ((m % 256 / 128) ||| 1) + m % 128 := by
      have q := @Nat.or_mod_two_pow (m % 256) 128 7
      have r := @Nat.or_div_two_pow (m % 256) 128 7
      have z : m % 256 % 128 ||| 0 = m % 256 % 128 := Nat.or_zero _
      have z2 : (m % 256 ||| 128) % 128 = m % 256 % 128 := q.trans z
      have z3 : (m % 256 ||| 128) / 128 = m % 256 / 128 ||| 1 := r
      omega
    have a2 : m % 256 / 128 = 0 ∨ m % 256 / 128 = 1 := by omega
    rcases a2 with a2 | a2 <;> rw [a2] at a1 <;> simp at a1 <;> omega
  rw [h1, e]
  refine h2.trans ?_
  rw [h3]

theorem one_more {w1 : World} {base : Nat} {v1 : Value} {l : List UInt8} {c : UInt8} {z : Int} (hz : z = ((c.toNat : Nat) : Int)) (h : w1.ownsRow base 5 1 v1 (l.length + 1) (bv l ++ [.int .u8 z])) : Owns w1 base v1 (l ++ [c]) := by
  subst hz
  have e : bv (l ++ [c]) = bv l ++ [.int .u8 (c.toNat : Int)] := by simp [bv]
  unfold Owns
  rw [e]; simpa using h
theorem below_grown {base : Nat} {w wr w1 : World} {o : Obj} {u : Value} {l : List UInt8} (hbel : Below base w wr) (hb : base ≤ wr.heap.size) (hown : Owns wr base u l) (hg : (wr.alloc o).grownBy w1 u.ownBlock) : Below base w w1 :=
  (hbel.alloc hb o).grown hg (by simp; omega) (fun k hk => (World.ownsRow.lt hown k hk).1)
theorem add_step {w wr w1 : World} {base : Nat} {u v1 : Value} {l pre : List UInt8} {f m n : Nat} {o : Obj} (hU : Num.uv n = pre ++ Num.uvF f m) (hm : m < 18446744073709551616) (hf : m < 128 ^ (f + 1)) (h128 : 128 ≤ m)
    (hown : Owns wr base u (l ++ pre)) (hbel : Below base w wr) (hb : base ≤ wr.heap.size)
    (hown1 : w1.ownsRow base 5 1 v1 ((l ++ pre).length + 1) (bv (l ++ pre) ++ [.int .u8 (bits .or .u8 ((m : Int) % 256) 128)]))
    (hg : (wr.alloc o).grownBy w1 u.ownBlock) :
    ∃ (pre' : List UInt8) (f' : Nat), m / 128 < 128 ^ (f' + 1) ∧ Num.uv n = pre' ++ Num.uvF f' (m / 128) ∧ Owns w1 base v1 (l ++ pre') ∧ Below base w w1 := by
  cases f with
  | zero => simp at hf; omega
  | succ f' =>
    refine ⟨pre ++ [UInt8.ofNat (m % 128 + 128)], f', ?_, ?_, ?_, below_grown hbel hb hown hg⟩
    · rw [Nat.pow_succ] at hf; omega
    · rw [hU, Num.uvF_great f' m h128]; simp
    · rw [← List.append_assoc]; exact one_more (or_128 m hm) hown1

end Go.Proofs.Ythegdhbmfojdaaa.Wi
