/- Contracts of the functions over sets: isRows, isRow, alike, New, Put, Count, Bytes, And, Or, Not. -/
import Derived.Test.YtcldmjjbiifejaaDoorSets
namespace Go.Proofs.YtcldmjjbiifejaaDoor
open Go.RowKit

/-- A number's word. -/
def wd (X i : Nat) : Nat := X / 2 ^ (64 * i) % 2 ^ 64
theorem wd_lt (X i : Nat) : wd X i < 2 ^ 64 := Nat.mod_lt _ (by decide)
theorem wd_bit (X i j : Nat) : (wd X i).testBit j = (decide (j < 64) && X.testBit (j + 64 * i)) := by
  unfold wd
  simp only [Nat.testBit_mod_two_pow, Nat.testBit_div_two_pow]
theorem ofd_bit (L : List Nat) (h : ∀ x ∈ L, x < 2 ^ 64) (j : Nat) : (ofd 64 L).testBit j = (L.getD (j / 64) 0).testBit (j % 64) := by
  by_cases hj : j / 64 < L.length
  · rw [← ofd_getD 64 L h _ hj]
    simp only [Nat.testBit_mod_two_pow, Nat.testBit_div_two_pow]
    rw [show j % 64 + 64 * (j / 64) = j by omega]
    simp [show j % 64 < 64 by omega]
  · rw [Nat.testBit_lt_two_pow (Nat.lt_of_lt_of_le (ofd_lt 64 L h) (Nat.pow_le_pow_right (by decide) (by omega)))]
    simp [hj]
theorem told_bit {n : Nat} {W : Nat → Nat} (hW : ∀ i, W i < 2 ^ 64) (j : Nat) : (told n W).testBit j = (decide (j < n) && (W (j / 64)).testBit (j % 64)) := by
  unfold told
  rw [Nat.testBit_mod_two_pow]
  by_cases hj : j < n
  · rw [ofd_bit _ (by intro x hx; obtain ⟨i, _, rfl⟩ := List.mem_map.1 hx; exact hW i)]
    have : j / 64 < wn n := by unfold wn; omega
    simp [this]
  · simp [hj]
theorem told_and {n X Y : Nat} (hX : X < 2 ^ n) : told n (fun i => wd X i &&& wd Y i) = X &&& Y := by
  apply Nat.eq_of_testBit_eq
  intro j
  rw [told_bit (fun i => Nat.and_lt_two_pow _ (wd_lt Y i)), Nat.testBit_and, Nat.testBit_and, wd_bit, wd_bit, show j % 64 + 64 * (j / 64) = j by omega]
  by_cases hj : j < n
  · simp [hj, show j % 64 < 64 by omega]
  · rw [Nat.testBit_lt_two_pow (Nat.lt_of_lt_of_le hX (Nat.pow_le_pow_right (by decide) (by omega)))]
    simp [hj]
theorem told_or {n X Y : Nat} (hX : X < 2 ^ n) (hY : Y < 2 ^ n) : told n (fun i => wd X i ||| wd Y i) = X ||| Y := by
  apply Nat.eq_of_testBit_eq
  intro j
  rw [told_bit (fun i => Nat.or_lt_two_pow (wd_lt X i) (wd_lt Y i)), Nat.testBit_or, Nat.testBit_or, wd_bit, wd_bit, show j % 64 + 64 * (j / 64) = j by omega]
  by_cases hj : j < n
  · simp [hj, show j % 64 < 64 by omega]
  · rw [Nat.testBit_lt_two_pow (Nat.lt_of_lt_of_le hX (Nat.pow_le_pow_right (by decide) (by omega))), Nat.testBit_lt_two_pow (Nat.lt_of_lt_of_le hY (Nat.pow_le_pow_right (by decide) (by omega)))]
    simp [hj]
theorem told_not {n X : Nat} (hX : X < 2 ^ n) : told n (fun i => 2 ^ 64 - (wd X i + 1)) = 2 ^ n - (X + 1) := by
  apply Nat.eq_of_testBit_eq
  intro j
  rw [told_bit (fun i => by have := wd_lt X i; omega), Nat.testBit_two_pow_sub_succ hX, Nat.testBit_two_pow_sub_succ (wd_lt X _), wd_bit, show j % 64 + 64 * (j / 64) = j by omega]
  by_cases hj : j < n
  · simp [hj, show j % 64 < 64 by omega]
  · simp [hj]
theorem told_zero (n : Nat) : told n (fun _ => 0) = 0 := by
  apply Nat.eq_of_testBit_eq
  intro j
  rw [told_bit (fun _ => by decide)]; simp

/-- A word of a set in memory. -/
theorem ISet.word {w : World} {base n X B g : Nat} {p : Value} (h : ISet w base p n X B g) (i : Nat) (hi : i < wn n) : w.cell? ⟨g, i, none⟩ = some (.int .u64 ((wd X i : Nat) : Int)) := by
  rw [World.ownsRow.cellAt h.own i (by omega), nv_get _ _ _ (by rw [dg_length]; exact hi), dg_getD _ _ _ _ hi]; rfl

theorem isRows_any (w : World) (z : Int) (hz : -9223372036854775808 ≤ z ∧ z ≤ 9223372036854775807) :
    Calls Tryd.prog 32 #[.int .i64 z] w fun e w' => e = .returned (.bool (decide (0 ≤ z) && decide (z ≤ 1048576))) ∧ w' = w := by
  by_cases h0 : 0 ≤ z
  · by_cases h1 : z ≤ 1048576
    · go_enter Tryd.func32, Tryd.ntmps32
      go_wp2
      go_ret
      simp [h0, h1]
    · go_enter Tryd.func32, Tryd.ntmps32
      go_wp2
      go_ret
      simp [h1]
  · go_enter Tryd.func32, Tryd.ntmps32
    go_wp2
    go_ret
    simp; omega

theorem isRow_any (w : World) (base n X B g : Nat) (p : Value) (z : Int) (h : ISet w base p n X B g) (hz : -9223372036854775808 ≤ z ∧ z ≤ 9223372036854775807) :
    Calls Tryd.prog 42 #[p, .int .i64 z] w fun e w' => e = .returned (.bool (decide (0 ≤ z) && decide (z < n))) ∧ w' = w := by
  obtain ⟨rfl, _, _, hc0, _, _, _, hn⟩ := h
  by_cases h0 : 0 ≤ z
  · by_cases h1 : z < n
    · go_enter Tryd.func42, Tryd.ntmps42
      go_wp2
      go_ret
      simp [h0, h1]
    · go_enter Tryd.func42, Tryd.ntmps42
      go_wp2
      go_ret
      simp [h1]
  · go_enter Tryd.func42, Tryd.ntmps42
    go_wp2
    go_ret
    simp; omega

theorem put_bad (w : World) (base n X B g : Nat) (p : Value) (z : Int) (h : ISet w base p n X B g) (hz : -9223372036854775808 ≤ z ∧ z ≤ 9223372036854775807) (hb : ¬ (0 ≤ z ∧ z < n)) :
    Calls Tryd.prog 19 #[p, .int .i64 z] w fun e w' => e = .returned (.int .i64 1) ∧ w' = w := by
  have e : (decide (0 ≤ z) && decide (z < n)) = false := by simp; omega
  go_enter Tryd.func19, Tryd.ntmps19
  go_wp2_with fail
  refine (isRow_any w base n X B g p z h hz).mono ?_
  rintro e1 w1 ⟨rfl, rfl⟩
  rw [e]
  go_wp2
  go_ret
  simp

theorem grown_like {a w w' : World} {r : Option Nat} (h : a.grownBy w r) (h1 : w'.os = w.os) (h2 : w'.tape = w.tape) (h3 : w'.output = w.output) (h4 : w'.heap = w.heap) : a.grownBy w' r :=
  ⟨h1.trans h.os, h2.trans h.tape, h3.trans h.output, by rw [h4]; exact h.size, by rw [h4]; exact h.block⟩
theorem or_bit {m X r : Nat} : (dg 64 m X).set (r / 64) (wd X (r / 64) ||| 2 ^ (r % 64)) = dg 64 m (X ||| 2 ^ r) := by
  apply dg_ext
  · simp [dg_length]
  · intro i hi
    have hb : ∀ i, wd (X ||| 2 ^ r) i = if i = r / 64 then wd X i ||| 2 ^ (r % 64) else wd X i := by
      intro i
      apply Nat.eq_of_testBit_eq
      intro j
      by_cases h : i = r / 64
      · subst h
        rw [if_pos rfl, wd_bit, Nat.testBit_or, Nat.testBit_or, wd_bit, Nat.testBit_two_pow, Nat.testBit_two_pow]
        by_cases hj : j < 64
        · simp [hj]; congr 1; simp; omega
        · have : ¬ r % 64 = j := by omega
          simp [hj, this]
      · rw [if_neg h, wd_bit, Nat.testBit_or, wd_bit, Nat.testBit_two_pow]
        by_cases hj : j < 64
        · have : ¬ r = j + 64 * i := by omega
          simp [hj, this]
        · simp [hj]
    have hh := hb i
    unfold wd at hh
    rw [hh, List.getD_eq_getElem?_getD, List.getElem?_set, dg_length]
    by_cases h : i = r / 64
    · subst h; simp [hi, wd]
    · rw [if_neg (fun h' => h h'.symm), if_neg h, ← List.getD_eq_getElem?_getD, dg_getD _ _ _ _ hi]

set_option maxHeartbeats 400000 in
theorem put_any (w : World) (base n X B g : Nat) (p : Value) (r : Nat) (h : ISet w base p n X B g) (hr : r < n) :
    Calls Tryd.prog 19 #[p, .int .i64 r] w fun e w' => e = .returned (.int .i64 0) ∧ ISet w' base p n (X ||| 2 ^ r) B g ∧ w.grownBy w' (some g) := by
  have hle := h.le
  have e : (decide (0 ≤ (r : Int)) && decide ((r : Int) < n)) = true := by simp; omega
  have hrow := isRow_any w base n X B g p r h (by omega)
  obtain ⟨q, hq⟩ : ∃ q, q = r / 64 := ⟨_, rfl⟩
  obtain ⟨o, ho⟩ : ∃ o, o = r % 64 := ⟨_, rfl⟩
  have hqw : q < wn n := by unfold wn; omega
  have hword := h.word q hqw
  have hfr := World.ownsRow.frozenAt h.own q
  have hc1 := h.words
  have hor := or_bit (X := X) (m := wn n) (r := r)
  rw [← hq, ← ho] at hor
  have hwl := wd_lt X q
  obtain ⟨x, hx⟩ : ∃ x, x = wd X q := ⟨_, rfl⟩
  rw [← hx] at hword hor hwl
  have hxl : x < 18446744073709551616 := hwl
  have hol : o ≤ 63 := by omega
  have hmul : 2 ^ o < 18446744073709551616 := by
    have : 2 ^ o ≤ 2 ^ 63 := Nat.pow_le_pow_right (by decide) hol
    omega
  have hob := u64_or_nat x (2 ^ o) hxl hmul
  obtain ⟨pw, hpw⟩ : ∃ pw : Nat, pw = 2 ^ o := ⟨_, rfl⟩
  have hpi : (2 : Int) ^ o = (pw : Int) := by rw [hpw]; norm_cast
  rw [← hpw] at hob hmul hor
  obtain ⟨y, hy⟩ : ∃ y, y = x ||| pw := ⟨_, rfl⟩
  rw [← hy] at hob hor
  have hqi : (r : Int) / 64 = (q : Int) := by omega
  have hoi : (r : Int) % 64 = (o : Int) := by omega
  obtain ⟨m, hm⟩ : ∃ m, m = wn n := ⟨_, rfl⟩
  rw [← hm] at hqw hc1
  have hqm : (q : Int) < (m : Int) := by omega
  have hml : m ≤ 16384 := by rw [hm]; unfold wn; omega
  obtain ⟨s1, s2⟩ := World.ownsRow.stored h.own q (.int .u64 (y : Int))
  rw [← nv_set, hor] at s1
  obtain ⟨rfl, hge, hne, hc0, _, hown, hlt, _⟩ := h
  have HS1 := hide s1
  have HS2 := hide s2
  have HC0 := hide hc0
  have hX2 : X ||| 2 ^ r < 2 ^ n := Nat.or_lt_two_pow hlt (Nat.pow_lt_pow_right (by decide) hr)
  have HX2 := hide hX2
  have HM := hide hm
  have HNE := hide hne
  clear s1 s2 hor hy hpw hx ho hq hm hown hc0 hlt hwl hX2 hne
  go_enter Tryd.func19, Tryd.ntmps19
  go_wp2_with fail
  refine hrow.mono ?_
  rintro e1 w1 ⟨rfl, rfl⟩
  rw [e]
  go_wp2_with fail
  go_region
  all_goals
    go_wp2
    go_ret
    have hne := unhide HNE
    refine ⟨by simp, ⟨rfl, hge, hne, (unhide HS2).cell (unhide HC0) (by simp; omega), by rw [← unhide HM]; exact (unhide HS2).cell hc1 (by simp; omega), unhide HS1, unhide HX2, hle⟩, grown_like (unhide HS2) rfl rfl rfl rfl⟩
end Go.Proofs.YtcldmjjbiifejaaDoor
