/- Contracts of mayCount, mayNumber, and the reference's Fine and Check. -/
import Derived.Test.YtkoihniggoelnaaVal
namespace Go.Proofs.Ytkoihniggoelnaa
open Go.RowKit Go.Sort

theorem Pt.Ok.len {w : World} {p : Pt} {a : Option Addr} {n c : Nat} (h : p.Ok w) (e : p.tv = .slice a n c) : n = p.ts.length ∧ n ≤ c ∧ c ≤ maxLen := by
  have := h.rt
  rw [e] at this
  obtain ⟨h1, h2, h3, -⟩ := this.cells
  rw [sv_length] at h1 h2
  exact ⟨h1, by omega, h3⟩
set_option maxHeartbeats 800000 in
theorem mayCount_any (w : World) (p : Pt) (hp : p.Ok w) : Calls Try.prog 39 #[.agg #[.int .u64 p.n, .int .i64 p.v, p.tv]] w fun e w' => e = .returned (.bool (decide (p.v = 0) && decide (p.ts.length = 0))) ∧ Grows w w' := by
  obtain ⟨a1, n1, c1, e1⟩ := hp.rt.sl
  obtain ⟨h1, h2, h3⟩ := hp.len e1
  unfold maxLen at h3
  rw [e1, ← h1]
  clear hp e1 h1
  by_cases hv : p.v = 0
  · have hvb : (p.v == 0) = true := by simp [hv]
    rw [decide_eq_true hv, Bool.true_and]
    clear hv
    by_cases hn : n1 = 0
    · subst hn
      go_enter Try.func39, Try.ntmps39
      go_wp2_with fail
      go_ret
      exact ⟨rfl, Grows.alloc _ _⟩
    · have hnb : ((n1 : Int) == 0) = false := by simp [hn]
      rw [decide_eq_false hn]
      go_enter Try.func39, Try.ntmps39
      go_wp2_with fail
      go_ret
      exact ⟨rfl, Grows.alloc _ _⟩
  · have hvb : (p.v == 0) = false := by simp [hv]
    rw [decide_eq_false hv, Bool.false_and]
    clear hv
    go_enter Try.func39, Try.ntmps39
    go_wp2_with fail
    go_ret
    exact ⟨rfl, Grows.alloc _ _⟩
set_option maxHeartbeats 800000 in
theorem mayNumber_any (w : World) (p : Pt) (hp : p.Ok w) : Calls Try.prog 45 #[.agg #[.int .u64 p.n, .int .i64 p.v, p.tv]] w fun e w' => e = .returned (.bool (decide (p.ts.length = 0) && (decide (p.v = 0) || (p.n != 0)))) ∧ Grows w w' := by
  obtain ⟨a1, n1, c1, e1⟩ := hp.rt.sl
  obtain ⟨h1, h2, h3⟩ := hp.len e1
  unfold maxLen at h3
  rw [e1, ← h1]
  clear hp e1 h1
  by_cases hn : n1 = 0
  · subst hn
    by_cases hv : p.v = 0
    · have hvb : (p.v == 0) = true := by simp [hv]
      rw [decide_eq_true hv, Bool.true_or]
      clear hv
      go_enter Try.func45, Try.ntmps45
      go_wp2_with fail
      go_ret
      exact ⟨rfl, Grows.alloc _ _⟩
    · have hvb : (p.v == 0) = false := by simp [hv]
      rw [decide_eq_false hv, Bool.false_or]
      clear hv
      go_enter Try.func45, Try.ntmps45
      go_wp2_with fail
      go_ret
      exact ⟨rfl, Grows.alloc _ _⟩
  · have hnb : ((n1 : Int) == 0) = false := by simp [hn]
    rw [decide_eq_false hn, Bool.false_and]
    go_enter Try.func45, Try.ntmps45
    go_wp2_with fail
    go_ret
    exact ⟨rfl, Grows.alloc _ _⟩
set_option maxHeartbeats 1600000 in
theorem reffine_any (w : World) (D M k c : Int) : Calls Try.prog 26 #[.agg #[.int .i64 D, .int .i64 M], .agg #[.int .i64 k, .int .i64 c]] w fun e w' => e = .returned (.bool (fitv D M k c)) ∧ Grows w w' := by
  unfold fitv
  by_cases h1 : k = 1
  · subst h1
    rw [if_pos rfl]
    go_enter Try.func26, Try.ntmps26
    go_wp2_with fail
    go_ret
    exact ⟨rfl, (Grows.alloc _ _).trans (Grows.alloc _ _)⟩
  · rw [if_neg h1]
    have b1 : (k == 1) = false := by simp [h1]
    by_cases h2 : k = 2 ∨ k = 3 ∨ k = 4
    · rw [if_pos h2]
      by_cases hc : 0 ≤ c
      · have e : decide (0 ≤ c ∧ c < M) = decide (c < M) := by simp [hc]
        rw [e]
        rcases h2 with rfl | rfl | rfl
        all_goals
          go_enter Try.func26, Try.ntmps26
          go_wp2_with fail
          go_ret
          exact ⟨rfl, (Grows.alloc _ _).trans (Grows.alloc _ _)⟩
      · have e : decide (0 ≤ c ∧ c < M) = false := by simp [hc]
        rw [e]
        rcases h2 with rfl | rfl | rfl
        all_goals
          go_enter Try.func26, Try.ntmps26
          go_wp2_with fail
          go_ret
          exact ⟨rfl, (Grows.alloc _ _).trans (Grows.alloc _ _)⟩
    · rw [if_neg h2]
      have b2 : (k == 2) = false := by simp; omega
      have b3 : (k == 3) = false := by simp; omega
      have b4 : (k == 4) = false := by simp; omega
      by_cases h5 : k = 5
      · subst h5
        rw [if_pos rfl]
        by_cases hc : 0 ≤ c
        · have e : decide (0 ≤ c ∧ c < D) = decide (c < D) := by simp [hc]
          rw [e]
          clear h1 h2 b1 b2 b3 b4
          go_enter Try.func26, Try.ntmps26
          go_wp2_with fail
          go_ret
          exact ⟨rfl, (Grows.alloc _ _).trans (Grows.alloc _ _)⟩
        · have e : decide (0 ≤ c ∧ c < D) = false := by simp [hc]
          rw [e]
          clear h1 h2 b1 b2 b3 b4
          go_enter Try.func26, Try.ntmps26
          go_wp2_with fail
          go_ret
          exact ⟨rfl, (Grows.alloc _ _).trans (Grows.alloc _ _)⟩
      · rw [if_neg h5]
        have b5 : (k == 5) = false := by simp [h5]
        clear h1 h2 h5
        go_enter Try.func26, Try.ntmps26
        go_wp2_with fail
        go_ret
        exact ⟨rfl, (Grows.alloc _ _).trans (Grows.alloc _ _)⟩
end Go.Proofs.Ytkoihniggoelnaa
