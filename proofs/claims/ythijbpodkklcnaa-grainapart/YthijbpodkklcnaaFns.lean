/- Contracts of the small functions: Empty, Holds, Meet, Covers. -/
import Derived.Test.YthijbpodkklcnaaMem
import Derived.Handy
namespace Go.Proofs.Ythijbpodkklcnaa
open Go.RowKit Go.Sort

set_option maxHeartbeats 400000 in
theorem empty_any (w : World) (s : Sp) :
    Calls Try.prog 13 #[.agg #[.int .i64 s.1, .int .i64 s.2]] w fun e w' => e = .returned (.bool (emp s)) ∧ Grows w w' := by
  have hb := Grows.alloc w (.cells #[.int .i64 s.1, .int .i64 s.2] 23)
  obtain ⟨F, T⟩ := s
  have e : emp (F, T) = decide (F ≥ T) := rfl
  rw [e]
  clear e
  go_enter Try.func13, Try.ntmps13
  go_wp2_with fail
  go_ret
  exact ⟨rfl, hb⟩

set_option maxHeartbeats 400000 in
theorem holds_any (w : World) (s : Sp) (t : Int) :
    Calls Try.prog 14 #[.agg #[.int .i64 s.1, .int .i64 s.2], .int .i64 t] w fun e w' => e = .returned (.bool (hol s t)) ∧ Grows w w' := by
  have hb := Grows.alloc w (.cells #[.int .i64 s.1, .int .i64 s.2] 23)
  obtain ⟨F, T⟩ := s
  have e : hol (F, T) t = (decide (F ≤ t) && decide (t < T)) := rfl
  rw [e]
  clear e
  by_cases h1 : F ≤ t
  · rw [decide_eq_true h1, Bool.true_and]
    go_enter Try.func14, Try.ntmps14
    go_wp2_with fail
    go_ret
    exact ⟨rfl, hb⟩
  · rw [decide_eq_false h1, Bool.false_and]
    go_enter Try.func14, Try.ntmps14
    go_wp2_with fail
    go_ret
    exact ⟨rfl, hb⟩

set_option maxHeartbeats 400000 in
theorem refholds_any (w : World) (s : Sp) (t : Int) :
    Calls Try.prog 12 #[.agg #[.int .i64 s.1, .int .i64 s.2], .int .i64 t] w fun e w' => e = .returned (.bool (hol s t)) ∧ Grows w w' := by
  have hb := Grows.alloc w (.cells #[.int .i64 s.1, .int .i64 s.2] 23)
  obtain ⟨F, T⟩ := s
  have e : hol (F, T) t = (decide (F ≤ t) && decide (t < T)) := rfl
  rw [e]
  clear e
  by_cases h1 : F ≤ t
  · rw [decide_eq_true h1, Bool.true_and]
    go_enter Try.func12, Try.ntmps12
    go_wp2_with fail
    go_ret
    exact ⟨rfl, hb⟩
  · rw [decide_eq_false h1, Bool.false_and]
    go_enter Try.func12, Try.ntmps12
    go_wp2_with fail
    go_ret
    exact ⟨rfl, hb⟩

set_option maxHeartbeats 800000 in
theorem covers_any (w : World) (a b : Sp) :
    Calls Try.prog 16 #[.agg #[.int .i64 a.1, .int .i64 a.2], .agg #[.int .i64 b.1, .int .i64 b.2]] w fun e w' => e = .returned (.bool (cov a b)) ∧ Grows w w' := by
  obtain ⟨W, hW⟩ : ∃ W, W = (w.alloc (.cells #[.int .i64 a.1, .int .i64 a.2] 23)).alloc (.cells #[.int .i64 b.1, .int .i64 b.2] 23) := ⟨_, rfl⟩
  have gW : Grows w W := by rw [hW]; exact (Grows.alloc _ _).trans (Grows.alloc _ _)
  have hc : ∀ w', Grows W w' → w'.cell? ⟨w.heap.size, 0, none⟩ = some (.int .i64 a.1) ∧ w'.cell? ⟨w.heap.size, 1, none⟩ = some (.int .i64 a.2) ∧ w'.cell? ⟨w.heap.size + 1, 0, none⟩ = some (.int .i64 b.1) ∧ w'.cell? ⟨w.heap.size + 1, 1, none⟩ = some (.int .i64 b.2) := by
    intro w' g
    have hs : W.heap.size = w.heap.size + 2 := by rw [hW]; simp
    refine ⟨?_, ?_, ?_, ?_⟩ <;> (rw [g.below.cell (by rw [hs]; simp), hW]; simp)
  have kE := empty_any W b
  have HC : Aside _ := hc
  have HG : Hid (Grows w W) := gW
  have HW : Hid _ := hW
  rw [hW] at kE
  obtain ⟨F, T⟩ := a
  obtain ⟨F2, T2⟩ := b
  have e : cov (F, T) (F2, T2) = (emp (F2, T2) || (decide (F ≤ F2) && decide (T2 ≤ T))) := rfl
  rw [e]
  clear e hW gW hc
  simp only at *
  generalize emp (F2, T2) = Z at *
  cases Z with
  | true =>
    go_enter Try.func16, Try.ntmps16
    go_wp2_with fail
    refine kE.mono ?_
    rintro e w' ⟨rfl, g2⟩
    rw [← HW.out] at g2
    obtain ⟨c0, c1, c2, c3⟩ := HC.out w' g2
    have HG2 : Hid (Grows w w') := HG.out.trans g2
    clear kE g2
    go_wp2_with fail
    go_ret
    exact ⟨rfl, HG2.out⟩
  | false =>
    by_cases h1 : F ≤ F2
    · rw [decide_eq_true h1, Bool.true_and, Bool.false_or]
      go_enter Try.func16, Try.ntmps16
      go_wp2_with fail
      refine kE.mono ?_
      rintro e w' ⟨rfl, g2⟩
      rw [← HW.out] at g2
      obtain ⟨c0, c1, c2, c3⟩ := HC.out w' g2
      have HG2 : Hid (Grows w w') := HG.out.trans g2
      clear kE g2
      go_wp2_with fail
      go_ret
      exact ⟨rfl, HG2.out⟩
    · rw [decide_eq_false h1, Bool.false_and, Bool.false_or]
      go_enter Try.func16, Try.ntmps16
      go_wp2_with fail
      refine kE.mono ?_
      rintro e w' ⟨rfl, g2⟩
      rw [← HW.out] at g2
      obtain ⟨c0, c1, c2, c3⟩ := HC.out w' g2
      have HG2 : Hid (Grows w w') := HG.out.trans g2
      clear kE g2
      go_wp2_with fail
      go_ret
      exact ⟨rfl, HG2.out⟩

set_option maxHeartbeats 400000 in
/-- Empty draws nothing: the world behind it, to the cell. -/
theorem empty_ex (w : World) (F T : Int) :
    Calls Try.prog 13 #[.agg #[.int .i64 F, .int .i64 T]] w fun e w' => e = .returned (.bool (decide (F ≥ T))) ∧ w' = w.alloc (.cells #[.int .i64 F, .int .i64 T] 23) := by
  go_enter Try.func13, Try.ntmps13
  go_wp2_with fail
  go_ret
  exact ⟨rfl, rfl⟩

set_option maxHeartbeats 1600000 in
theorem meet_any (w : World) (a b : Sp) :
    Calls Try.prog 11 #[.agg #[.int .i64 a.1, .int .i64 a.2], .agg #[.int .i64 b.1, .int .i64 b.2]] w fun e w' => e = .returned (.agg #[.int .i64 (meet a b).1, .int .i64 (meet a b).2]) ∧ Grows w w' := by
  obtain ⟨F, T⟩ := a
  obtain ⟨F2, T2⟩ := b
  have e : meet (F, T) (F2, T2) = if min T T2 ≤ max F F2 then (0, 0) else (max F F2, min T T2) := rfl
  rw [e]
  clear e
  have kE := fun W => empty_ex W (max F F2) (min T T2)
  simp only
  by_cases h : min T T2 ≤ max F F2
  · rw [if_pos h]
    rw [show decide (max F F2 ≥ min T T2) = true from decide_eq_true h] at kE
    clear h
    go_enter Try.func11, Try.ntmps11
    go_wp2_with (go_at_call 13; refine (kE _).mono ?_; rintro e w' ⟨rfl, rfl⟩)
    go_returns
    exact ⟨rfl, ((((Grows.alloc _ _).trans (Grows.alloc _ _)).trans (Grows.alloc _ _)).trans (Grows.alloc _ _)).trans (Grows.alloc _ _)⟩
  · rw [if_neg h]
    rw [show decide (max F F2 ≥ min T T2) = false from decide_eq_false h] at kE
    clear h
    go_enter Try.func11, Try.ntmps11
    go_wp2_with (go_at_call 13; refine (kE _).mono ?_; rintro e w' ⟨rfl, rfl⟩)
    go_returns
    exact ⟨rfl, ((((Grows.alloc _ _).trans (Grows.alloc _ _)).trans (Grows.alloc _ _)).trans (Grows.alloc _ _)).trans (Grows.alloc _ _)⟩
end Go.Proofs.Ythijbpodkklcnaa
