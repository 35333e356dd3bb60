/- The contract of the reference's Pack. -/
import Derived.Test.YtcldmjjbiifejaaDoorPack
namespace Go.Proofs.YtcldmjjbiifejaaDoor
open Go.RowKit

theorem take_num {wd : Nat} {l : List Int} {k x : Nat} (hk : k < l.length) (hx : l.getD k 0 = (x : Int)) : num wd (l.take (k + 1)) = num wd (l.take k) + 2 ^ (wd * k) * x := by
  have e : l.take (k + 1) = l.take k ++ [(x : Int)] := by
    rw [List.take_add_one, List.getElem?_eq_getElem hk]
    simp [hk] at hx
    simp [hx]
  unfold num
  rw [e, List.map_append, ofd_append]
  simp [ofd, Nat.min_eq_left (Nat.le_of_lt hk)]
theorem take_fits {wd : Nat} {l : List Int} {k x : Nat} (hk : k < l.length) (hx : l.getD k 0 = (x : Int)) (hl : x < 2 ^ wd) (h : fits (l.take k) wd = true) : fits (l.take (k + 1)) wd = true := by
  have e : l.take (k + 1) = l.take k ++ [(x : Int)] := by
    rw [List.take_add_one, List.getElem?_eq_getElem hk]
    simp [hk] at hx
    simp [hx]
  unfold fits at *
  rw [e, List.all_append, h]
  have : (x : Int) < 2 ^ wd := by exact_mod_cast hl
  simp [this]
theorem made_nv (k : IntKind) (m j : Nat) : (madeCells (Value.int k 0).cells (m * 1)).toList = nv k (dg j m 0) := by
  rw [Nat.mul_one]
  refine (toList_madeCells_one _ m).trans ?_
  apply List.ext_getElem
  · simp [nv, dg]
  · intro i h1 h2
    simp [nv, dg]
theorem bit_more (P T x j : Nat) (h : x / 2 ^ j % 2 = 1) : P + 2 ^ T * (x % 2 ^ j) + 2 ^ (T + j) = P + 2 ^ T * (x % 2 ^ (j + 1)) := by
  rw [Nat.pow_succ 2 j, Nat.mod_mul, h, Nat.mul_one, Nat.mul_add, Nat.pow_add]; omega
theorem bit_same (P T x j : Nat) (h : ¬ x / 2 ^ j % 2 = 1) : P + 2 ^ T * (x % 2 ^ j) = P + 2 ^ T * (x % 2 ^ (j + 1)) := by
  rw [Nat.pow_succ 2 j, Nat.mod_mul, show x / 2 ^ j % 2 = 0 by omega]; simp
theorem part_lt {P T x j : Nat} (hP : P < 2 ^ T) : P + 2 ^ T * (x % 2 ^ j) < 2 ^ (T + j) := by
  have h1 : x % 2 ^ j + 1 ≤ 2 ^ j := Nat.mod_lt _ (Nat.two_pow_pos _)
  have h2 := Nat.mul_le_mul_left (2 ^ T) h1
  rw [Nat.mul_add] at h2
  rw [Nat.pow_add]; omega

end Go.Proofs.YtcldmjjbiifejaaDoor
