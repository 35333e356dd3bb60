/- Contracts of the law's plain functions. -/
import Derived.Test.YtdcoeebpknipdaaFn12
import Derived.Laws.Concat
namespace Go.Proofs.Ytdcoeebpknipdaa
open Go.RowKit Go.Maps

def dig (n : Nat) : UInt8 := UInt8.ofNat (48 + n)
def numB (n : Nat) : Str := if n < 10 then [dig n] else if n < 100 then [dig (n / 10), dig (n % 10)] else [dig (n / 100), dig (n / 10 % 10), dig (n % 10)]
def fnm (n : Nat) : Str := 102 :: numB n
def valB (l : Str) : Nat := l.foldl (fun a c => 10 * a + (c.toNat - 48)) 0
theorem num_facts : ∀ n < 1000, valB (numB n) = n ∧ isNm (fnm n) = true ∧ (numB n).length ≤ 3 := by decide +kernel
theorem numB_len (n : Nat) : (numB n).length ≤ 3 := by
  unfold numB
  split
  · simp
  · split <;> simp
theorem fnm_inj {i j : Nat} (hi : i < 1000) (hj : j < 1000) (h : fnm i = fnm j) : i = j := by
  have h1 : numB i = numB j := by unfold fnm at h; injection h
  have := congrArg valB h1
  rw [(num_facts i hi).1, (num_facts j hj).1] at this
  exact this
def absN (n : Int) : Nat := (if n < 0 then (-(n + 1)) else n).toNat
theorem absN_lt {n : Int} (h1 : -9223372036854775808 ≤ n) (h2 : n ≤ 9223372036854775807) : absN n ≤ 9223372036854775807 := by unfold absN; split <;> omega
theorem abs_any (w : World) (n : Int) (h1 : -9223372036854775808 ≤ n) (h2 : n ≤ 9223372036854775807) : Calls Try.prog 27 #[.int .i64 n] w fun e w' => e = .returned (.int .i64 (absN n : Int)) ∧ w' = w := by
  by_cases hn : n < 0
  · have hw1 : wrap64 (n + 1) = n + 1 := by rw [← IntWalk.i64_left, IntKind.wrap_i64]; omega
    have hw2 : wrap64 (-(n + 1)) = -(n + 1) := by rw [← IntWalk.i64_left, IntKind.wrap_i64]; omega
    have HE : Hid ((absN n : Int) = -(n + 1)) := by apply hide; unfold absN; rw [if_pos hn]; omega
    go_enter Try.func27, Try.ntmps27
    go_wp2_with fail
    go_ret
    exact ⟨by rw [HE.out]; rfl, rfl⟩
  · have HE : Hid ((absN n : Int) = n) := by apply hide; unfold absN; rw [if_neg hn]; omega
    go_enter Try.func27, Try.ntmps27
    go_wp2_with fail
    go_ret
    exact ⟨by rw [HE.out]; rfl, rfl⟩
theorem str_add (a b : Str) : (⟨a.toArray⟩ : ByteArray) ++ ⟨b.toArray⟩ = ⟨(a ++ b).toArray⟩ := by
  apply ByteArray.ext
  simp
theorem number_one (w : World) (n : Nat) (h : n < 10) : Calls Try.prog 30 #[.int .i64 (n : Int)] w fun e w' => e = .returned (.string ⟨(numB n).toArray⟩) ∧ w' = w := by
  rcases (by omega : n = 0 ∨ n = 1 ∨ n = 2 ∨ n = 3 ∨ n = 4 ∨ n = 5 ∨ n = 6 ∨ n = 7 ∨ n = 8 ∨ n = 9) with rfl | rfl | rfl | rfl | rfl | rfl | rfl | rfl | rfl | rfl <;>
  · go_enter Try.func30, Try.ntmps30
    go_wp2_with fail
    go_ret
    exact ⟨by first | rfl | kernel_rfl, rfl⟩
theorem numB_two {n : Nat} (h : 10 ≤ n) (h2 : n < 100) : numB n = numB (n / 10) ++ numB (n % 10) := by
  unfold numB
  rw [if_neg (by omega), if_pos h2, if_pos (by omega), if_pos (by omega)]
  rfl
theorem numB_three {n : Nat} (h : 100 ≤ n) (h2 : n < 1000) : numB n = numB (n / 10) ++ numB (n % 10) := by
  unfold numB
  rw [if_neg (by omega), if_neg (by omega), if_neg (by omega), if_pos (by omega), if_pos (by omega)]
  simp
  rw [Nat.div_div_eq_div_mul]
set_option maxHeartbeats 200000 in
theorem number_step (w : World) (n : Nat) (h : 10 ≤ n) (h2 : n < 1000) (k1 : Calls Try.prog 30 #[.int .i64 ((n / 10 : Nat) : Int)] w fun e w' => e = .returned (.string ⟨(numB (n / 10)).toArray⟩) ∧ w' = w) : Calls Try.prog 30 #[.int .i64 (n : Int)] w fun e w' => e = .returned (.string ⟨(numB n).toArray⟩) ∧ w' = w := by
  have k2 := number_one w (n % 10) (by omega)
  have HE : Hid (numB n = numB (n / 10) ++ numB (n % 10)) := by
    by_cases h3 : n < 100
    · exact numB_two h h3
    · exact numB_three (by omega) h2
  have hz : ¬ (n : Int) < 10 := by omega
  obtain ⟨A, hA⟩ : ∃ A, A = numB (n / 10) := ⟨_, rfl⟩
  obtain ⟨B, hB⟩ : ∃ B, B = numB (n % 10) := ⟨_, rfl⟩
  have hA3 : A.length ≤ 3 := by rw [hA]; exact numB_len _
  have hB3 : B.length ≤ 3 := by rw [hB]; exact numB_len _
  rw [← hA] at k1 HE
  rw [← hB] at k2 HE
  obtain ⟨q, hq⟩ : ∃ q, q = n / 10 := ⟨_, rfl⟩
  obtain ⟨r, hr⟩ : ∃ r, r = n % 10 := ⟨_, rfl⟩
  have hq2 : (n : Int) / 10 = (q : Int) := by omega
  have hr2 : (n : Int) % 10 = (r : Int) := by omega
  rw [← hq] at k1
  rw [← hr] at k2
  have hq3 : q < 100 := by omega
  have hr3 : r < 10 := by omega
  have hsa := run_string_add_lists (P := Try.prog) w A B (by omega) (by omega)
  obtain ⟨C, hC⟩ : ∃ C, C = numB n := ⟨_, rfl⟩
  rw [← hC]
  rw [← hC] at HE
  clear hq hr h h2 hA hB hA3 hB3 hC
  go_enter Try.func30, Try.ntmps30
  go_wp2_with fail
  refine k1.mono ?_
  rintro e w1 ⟨rfl, rfl⟩
  go_wp2_with fail
  refine k2.mono ?_
  rintro e w2 ⟨rfl, rfl⟩
  go_wp2_with fail
  go_ret
  exact ⟨by rw [HE.out]; rfl, rfl⟩
theorem number_any (w : World) (n : Nat) (h : n < 1000) : Calls Try.prog 30 #[.int .i64 (n : Int)] w fun e w' => e = .returned (.string ⟨(numB n).toArray⟩) ∧ w' = w := by
  by_cases h1 : n < 10
  · exact number_one w n h1
  · refine number_step w n (by omega) h ?_
    by_cases h2 : n / 10 < 10
    · exact number_one w _ h2
    · exact number_step w _ (by omega) (by omega) (number_one w _ (by omega))
end Go.Proofs.Ytdcoeebpknipdaa
