/- Contracts of the law's plain functions. -/
import Derived.Test.YthegdhbmfojdaaaFn12
import Derived.Laws.Concat
namespace Go.Proofs.Ythegdhbmfojdaaa
open Go.RowKit Go.Maps

def dig (n : Nat) : UInt8 := UInt8.ofNat (48 + n)
def numB (n : Nat) : Str := if n < 10 then [dig n] else if n < 100 then [dig (n / 10), dig (n % 10)] else [dig (n / 100), dig (n / 10 % 10), dig (n % 10)]
def fnm (n : Nat) : Str := 102 :: numB n
def valB (l : Str) : Nat := l.foldl (fun a c => 10 * a + (c.toNat - 48)) 0
theorem num_facts : ∀ n < 1000, valB (numB n) = n ∧ isNm (fnm n) = true ∧ (numB n).length ≤ 3 := by decide +kernel
theorem numB_len (n : Nat) : (numB n).length ≤ 3 := by
  unfold numB
  split
  · simp
  · split <;> simp
theorem fnm_inj {i j : Nat} (hi : i < 1000) (hj : j < 1000) (h : fnm i = fnm j) : i = j := by
  have h1 : numB i = numB j := by unfold fnm at h; injection h
  have := congrArg valB h1
  rw [(num_facts i hi).1, (num_facts j hj).1] at this
  exact this
def absN (n : Int) : Nat := (if n < 0 then (-(n + 1)) else n).toNat
theorem absN_lt {n : Int} (h1 : -9223372036854775808 ≤ n) (h2 : n ≤ 9223372036854775807) : absN n ≤ 9223372036854775807 := by unfold absN; split <;> omega
theorem abs_any (w : World) (n : Int) (h1 : -9223372036854775808 ≤ n) (h2 : n ≤ 9223372036854775807) : Calls Try.prog 18 #[.int .i64 n] w fun e w' => e = .returned (.int .i64 (absN n : Int)) ∧ w' = w := by
  by_cases hn : n < 0
  · have hw1 : wrap64 (n + 1) = n + 1 := by rw [← IntWalk.i64_left, IntKind.wrap_i64]; omega
    have hw2 : wrap64 (-(n + 1)) = -(n + 1) := by rw [← IntWalk.i64_left, IntKind.wrap_i64]; omega
    have HE : Hid ((absN n : Int) = -(n + 1)) := by apply hide; unfold absN; rw [if_pos hn]; omega
    go_enter Try.func18, Try.ntmps18
    go_wp2_with fail
    go_ret
    exact ⟨by rw [HE.out]; rfl, rfl⟩
  · have HE : Hid ((absN n : Int) = n) := by apply hide; unfold absN; rw [if_neg hn]; omega
    go_enter Try.func18, Try.ntmps18
    go_wp2_with fail
    go_ret
    exact ⟨by rw [HE.out]; rfl, rfl⟩
theorem str_add (a b : Str) : (⟨a.toArray⟩ : ByteArray) ++ ⟨b.toArray⟩ = ⟨(a ++ b).toArray⟩ := by
  apply ByteArray.ext
  simp
theorem numB_two {n : Nat} (h : 10 ≤ n) (h2 : n < 100) : numB n = numB (n / 10) ++ numB (n % 10) := by
  unfold numB
  rw [if_neg (by omega), if_pos h2, if_pos (by omega), if_pos (by omega)]
  rfl
theorem numB_three {n : Nat} (h : 100 ≤ n) (h2 : n < 1000) : numB n = numB (n / 10) ++ numB (n % 10) := by
  unfold numB
  rw [if_neg (by omega), if_neg (by omega), if_neg (by omega), if_pos (by omega), if_pos (by omega)]
  simp
  rw [Nat.div_div_eq_div_mul]
end Go.Proofs.Ythegdhbmfojdaaa
