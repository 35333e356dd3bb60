/- The walk of BitsLaws: not of what is in both is what is not in one of both; a set and what is not in it share nothing, and have all. -/
import Derived.Test.YtcldmjjbiifejaaDoorLawMade
namespace Go.Proofs.YtcldmjjbiifejaaDoor
open Go.RowKit

/-- What is not in. -/
def nt (n X : Nat) : Nat := 2 ^ n - (X + 1)
theorem nt_bit {n X : Nat} (h : X < 2 ^ n) (i : Nat) : (nt n X).testBit i = (decide (i < n) && !X.testBit i) := Nat.testBit_two_pow_sub_succ h i
theorem high_bit {n X i : Nat} (h : X < 2 ^ n) (hi : ¬ i < n) : X.testBit i = false := Nat.testBit_lt_two_pow (Nat.lt_of_lt_of_le h (Nat.pow_le_pow_right (by decide) (by omega)))
theorem demorgan {n X Y : Nat} (hX : X < 2 ^ n) (hY : Y < 2 ^ n) : nt n X ||| nt n Y = nt n (X &&& Y) := by
  apply Nat.eq_of_testBit_eq
  intro i
  rw [Nat.testBit_or, nt_bit hX, nt_bit hY, nt_bit (Nat.and_lt_two_pow _ hY), Nat.testBit_and]
  cases decide (i < n) <;> cases X.testBit i <;> cases Y.testBit i <;> rfl
theorem none_both {n X : Nat} (hX : X < 2 ^ n) : X &&& nt n X = 0 := by
  apply Nat.eq_of_testBit_eq
  intro i
  rw [Nat.testBit_and, nt_bit hX, Nat.zero_testBit]
  cases decide (i < n) <;> cases X.testBit i <;> rfl
theorem cnt_zero (n : Nat) : cnt n 0 = 0 := by simp [cnt]
theorem cnt_all {n X : Nat} (hX : X < 2 ^ n) : cnt n (X ||| nt n X) = n := by
  unfold cnt
  rw [List.countP_eq_length.2]
  · simp
  · intro i hi
    have := List.mem_range.1 hi
    rw [Nat.testBit_or, nt_bit hX]
    simp [this]
theorem cnt_nt {n X : Nat} (hX : X < 2 ^ n) : cnt n X + cnt n (nt n X) = n := by
  unfold cnt
  have h := List.length_eq_countP_add_countP (fun i => X.testBit i) (l := List.range n)
  rw [List.length_range] at h
  have e : (List.range n).countP (fun i => (nt n X).testBit i) = (List.range n).countP (fun i => decide ¬(X.testBit i = true)) := by
    apply List.countP_congr
    intro i hi
    rw [nt_bit hX]
    simp [List.mem_range.1 hi]
  rw [e]; omega

theorem rows_any (w : World) (z : Int) (hz : -9223372036854775808 ≤ z ∧ z ≤ 9223372036854775807) :
    Calls Tryd.prog 8 #[.int .i64 z] w fun e w' => e = .returned (.int .i64 ((ab z % 300 : Nat) : Int)) ∧ w' = w := by
  have hal := ab_le z hz
  have habs := abs_any w z hz
  obtain ⟨a, ha⟩ : ∃ a, a = ab z := ⟨_, rfl⟩
  rw [← ha] at hal habs ⊢
  clear ha
  go_enter Tryd.func8, Tryd.ntmps8
  go_wp2_with fail
  refine habs.mono ?_
  rintro e1 w1 ⟨rfl, rfl⟩
  go_wp2
  go_ret
  simp

section
variable {W w' : World} {K n X Y B g B' g' : Nat}
theorem not_at (hs : ISet w' 0 (.pointer (some ⟨B, 0, none⟩)) n X B g) (hb : Below K W w') (hK : K ≤ w'.heap.size) :
    Calls Tryd.prog 12 #[.pointer (some ⟨B, 0, none⟩)] w' fun e w'' => ∃ B' g', e = .returned (.pointer (some ⟨B', 0, none⟩)) ∧ ISet w'' 0 (.pointer (some ⟨B', 0, none⟩)) n (nt n X) B' g' ∧ Below K W w'' ∧ Below w'.heap.size w' w'' := by
  refine (not_any w' _ _ _ _ _ _ hs).mono ?_
  rintro e w'' ⟨p, B', g', rfl, h1, h2⟩
  have := h1.ptr
  subst this
  exact ⟨_, _, rfl, h1.mono (Nat.zero_le _), hb.trans (below_mono h2 hK), h2⟩
theorem and_at (hs : ISet w' 0 (.pointer (some ⟨B, 0, none⟩)) n X B g) (ht : ISet w' 0 (.pointer (some ⟨B', 0, none⟩)) n Y B' g') (hb : Below K W w') (hK : K ≤ w'.heap.size) :
    Calls Tryd.prog 10 #[.pointer (some ⟨B, 0, none⟩), .pointer (some ⟨B', 0, none⟩)] w' fun e w'' => ∃ B' g', e = .returned (.tuple #[.pointer (some ⟨B', 0, none⟩), .int .i64 0]) ∧ ISet w'' 0 (.pointer (some ⟨B', 0, none⟩)) n (X &&& Y) B' g' ∧ Below K W w'' ∧ Below w'.heap.size w' w'' := by
  refine (and_any w' _ _ _ _ _ _ _ _ _ _ _ hs ht).mono ?_
  rintro e w'' ⟨p, B', g', rfl, h1, h2⟩
  have := h1.ptr
  subst this
  exact ⟨_, _, rfl, h1.mono (Nat.zero_le _), hb.trans (below_mono h2 hK), h2⟩
theorem or_at (hs : ISet w' 0 (.pointer (some ⟨B, 0, none⟩)) n X B g) (ht : ISet w' 0 (.pointer (some ⟨B', 0, none⟩)) n Y B' g') (hb : Below K W w') (hK : K ≤ w'.heap.size) :
    Calls Tryd.prog 11 #[.pointer (some ⟨B, 0, none⟩), .pointer (some ⟨B', 0, none⟩)] w' fun e w'' => ∃ B' g', e = .returned (.tuple #[.pointer (some ⟨B', 0, none⟩), .int .i64 0]) ∧ ISet w'' 0 (.pointer (some ⟨B', 0, none⟩)) n (X ||| Y) B' g' ∧ Below K W w'' ∧ Below w'.heap.size w' w'' := by
  refine (or_any w' _ _ _ _ _ _ _ _ _ _ _ hs ht).mono ?_
  rintro e w'' ⟨p, B', g', rfl, h1, h2⟩
  have := h1.ptr
  subst this
  exact ⟨_, _, rfl, h1.mono (Nat.zero_le _), hb.trans (below_mono h2 hK), h2⟩
theorem bytes_at (hs : ISet w' 0 (.pointer (some ⟨B, 0, none⟩)) n X B g) (hb : Below K W w') (hK : K ≤ w'.heap.size) :
    Calls Tryd.prog 24 #[.pointer (some ⟨B, 0, none⟩)] w' fun e w'' => ∃ v, e = .returned v ∧ Rds w'' v (nv .u8 (dg 8 ((n + 7) / 8) X)) ∧ Below K W w'' ∧ Below w'.heap.size w' w'' := by
  refine (bytes_any w' _ _ _ _ _ _ hs).mono ?_
  rintro e w'' ⟨v, rfl, h1, h2⟩
  exact ⟨_, rfl, h1.rds, hb.trans (below_mono h2 hK), h2⟩
theorem count_at (c : Nat) (hc : cnt n X = c) (hs : ISet w' 0 (.pointer (some ⟨B, 0, none⟩)) n X B g) (hb : Below K W w') :
    Calls Tryd.prog 21 #[.pointer (some ⟨B, 0, none⟩)] w' fun e w'' => e = .returned (.int .i64 (c : Int)) ∧ Below K W w'' ∧ Below w'.heap.size w' w'' := by
  refine (count_any w' _ _ _ _ _ _ hs).mono ?_
  rintro e w'' ⟨rfl, d, rfl⟩
  exact ⟨by rw [hc], below_drewN hb d, below_drewN (Below.refl _ _) d⟩
theorem lawmade_at {v : Value} {l : List Int} (h : Rds w' v (iv l)) (hi : Ints l) (hn : n ≤ 1000) (hb : Below K W w') (hK : K ≤ w'.heap.size) :
    Calls Tryd.prog 9 #[.int .i64 n, v] w' fun e w'' => ∃ B g hb X, e = .returned (.tuple #[.pointer (some ⟨B, 0, none⟩), .slice (some ⟨hb, 0, none⟩) n n, .bool true]) ∧ ISet w'' 0 (.pointer (some ⟨B, 0, none⟩)) n X B g ∧
      w''.ownsRow 0 4 1 (.slice (some ⟨hb, 0, none⟩) n n) n (bls n X) ∧ Below K W w'' ∧ Below w'.heap.size w' w'' := by
  refine (lawmade_any w' v l n h hi hn).mono ?_
  rintro e w'' ⟨p, B, g, hb', X, rfl, h1, h2, h3⟩
  have := h1.ptr
  subst this
  exact ⟨_, _, _, _, rfl, h1.mono (Nat.zero_le _), own_mono h2 (Nat.zero_le _), hb.trans (below_mono h3 hK), h3⟩
end

end Go.Proofs.YtcldmjjbiifejaaDoor
