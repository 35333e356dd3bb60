/- Contracts of Width, of its reference, of same and of abs. -/
import Derived.Test.YtcldmjjbiifejaaDoorSmall
import Derived.Test.YtcldmjjbiifejaaDoorShelf
import Derived.Lib.BitFns
import Derived.Deep.DeepCutAuto
import Derived.BigQuiet
namespace Go.Proofs.YtcldmjjbiifejaaDoor
open Go.RowKit

theorem bitLenAux_spec : ∀ f x, x < 2 ^ f → x < 2 ^ Lib.bitLenAux f x ∧ (x ≠ 0 → 2 ^ (Lib.bitLenAux f x - 1) ≤ x ∧ 0 < Lib.bitLenAux f x) ∧ (x = 0 → Lib.bitLenAux f x = 0)
  | 0, x, h => by simp at h; subst h; simp [Lib.bitLenAux]
  | f + 1, x, h => by
    by_cases hx : x = 0
    · subst hx; simp [Lib.bitLenAux]
    · have ih := bitLenAux_spec f (x / 2) (by rw [Nat.pow_succ] at h; omega)
      simp only [Lib.bitLenAux, if_neg hx]
      obtain ⟨h1, h2, h3⟩ := ih
      generalize Lib.bitLenAux f (x / 2) = b at *
      refine ⟨?_, fun _ => ⟨?_, by omega⟩, fun h => absurd h hx⟩
      · rw [Nat.add_comm, Nat.pow_succ]; omega
      · rw [show 1 + b - 1 = b by omega]
        by_cases hy : x / 2 = 0
        · rw [h3 hy]; simp; omega
        · obtain ⟨g1, g2⟩ := h2 hy
          obtain ⟨c, rfl⟩ : ∃ c, b = c + 1 := ⟨b - 1, by omega⟩
          simp at g1
          rw [Nat.pow_succ]; omega
theorem bitLen_spec (x : Nat) (h : x < 18446744073709551616) : x < 2 ^ Lib.bitLen x ∧ (x ≠ 0 → 2 ^ (Lib.bitLen x - 1) ≤ x ∧ 0 < Lib.bitLen x) ∧ (x = 0 → Lib.bitLen x = 0) := bitLenAux_spec 64 x h
theorem bitLen_eq (x w : Nat) (h : x < 18446744073709551616) (h1 : x < 2 ^ w) (h2 : w = 0 ∨ 2 ^ (w - 1) ≤ x) : Lib.bitLen x = w := by
  obtain ⟨g1, g2, g3⟩ := bitLen_spec x h
  by_cases hx : x = 0
  · rw [g3 hx]
    rcases h2 with h2 | h2
    · exact h2.symm
    · have := Nat.two_pow_pos (w - 1); omega
  · obtain ⟨g4, g5⟩ := g2 hx
    rcases h2 with h2 | h2
    · subst h2; simp at h1; exact absurd h1 hx
    · have a1 : Lib.bitLen x - 1 < w := (Nat.pow_lt_pow_iff_right (a := 2) (by decide)).1 (Nat.lt_of_le_of_lt g4 h1)
      have a2 : w - 1 < Lib.bitLen x := (Nat.pow_lt_pow_iff_right (a := 2) (by decide)).1 (Nat.lt_of_le_of_lt h2 g1)
      have : w ≠ 0 := by intro h0; subst h0; simp at h1; exact hx h1
      omega

/-- How many bits a number of a row needs whose numbers are below n. -/
def wdt (n : Int) : Nat := if n < 1 then 0 else Lib.bitLen (n - 1).toNat
theorem wdt_le (n : Int) (b : Nat) (hn : n ≤ 9223372036854775807) (h : n ≤ 2 ^ b) : wdt n ≤ b := by
  unfold wdt
  by_cases h1 : n < 1
  · rw [if_pos h1]; omega
  · rw [if_neg h1]
    have hp : (2 : Int) ^ b = ((2 ^ b : Nat) : Int) := by norm_cast
    obtain ⟨g1, g2, g3⟩ := bitLen_spec (n - 1).toNat (by omega)
    by_cases hx : (n - 1).toNat = 0
    · rw [g3 hx]; omega
    · obtain ⟨g4, g5⟩ := g2 hx
      have hx2 : (n - 1).toNat < 2 ^ b := by rw [hp] at h; omega
      have a1 := (Nat.pow_lt_pow_iff_right (a := 2) (by decide)).1 (Nat.lt_of_le_of_lt g4 hx2)
      omega
theorem wdt_ge (n : Int) (x : Nat) (hn : n ≤ 9223372036854775807) (h : (x : Int) < n) : x < 2 ^ wdt n := by
  unfold wdt
  rw [if_neg (by omega)]
  have := (bitLen_spec (n - 1).toNat (by omega)).1
  omega

theorem width_any (w : World) (n : Int) (hn : -9223372036854775808 ≤ n ∧ n ≤ 9223372036854775807) :
    Calls Tryd.prog 26 #[.int .i64 n] w fun e w' => e = .returned (.int .i64 ((wdt n : Nat) : Int)) ∧ w' = w := by
  unfold wdt
  by_cases h : n < 1
  · rw [if_pos h]
    go_enter Tryd.func26, Tryd.ntmps26
    go_wp2
    go_ret
    simp
  · rw [if_neg h]
    have h0 : 0 ≤ n - 1 := by omega
    obtain ⟨m, hm⟩ : ∃ m, m = n - 1 := ⟨_, rfl⟩
    rw [← hm] at h0 ⊢
    have hml : m ≤ 9223372036854775807 := by omega
    have hm' : n - 1 = m := hm.symm
    have HM := hide hm
    clear hm
    go_enter Tryd.func26, Tryd.ntmps26
    go_wp2_with fail
    refine (Tryd.bits_Len64 m w h0 (by omega)).mono ?_
    rintro e1 w1 ⟨rfl, rfl⟩
    go_wp2
    go_ret
    simp

theorem same_any (w : World) (v v' : Value) (l : List Int) (h : Rds w v (iv l)) (h' : Rds w v' (iv l)) (hl : l.length ≤ 1099511627776) :
    Calls Tryd.prog 34 #[v, v'] w fun e w' => e = .returned (.bool true) ∧ ∃ m, w' = w.drewN m := by
  obtain ⟨ao, n, cap, rfl⟩ : ∃ ao n cap, v = .slice ao n cap := by obtain ⟨ao, cap, rfl, _⟩ := h; exact ⟨_, _, _, rfl⟩
  obtain ⟨ao', n', cap', rfl⟩ : ∃ ao n cap, v' = .slice ao n cap := by obtain ⟨ao, cap, rfl, _⟩ := h'; exact ⟨_, _, _, rfl⟩
  obtain ⟨rfl, h1, h2, h3⟩ := h.cells
  obtain ⟨rfl, h1', h2', h3'⟩ := h'.cells
  simp only [iv_length] at *
  go_enter Tryd.func34, Tryd.ntmps34
  go_wp2
  go_loopw [5] (fun i wr => ∃ k : Nat, k ≤ l.length ∧ i = .int .i64 k ∧ Hid (∃ m, wr = w.drewN m)) (fun i _ => l.length - (intOf i).toNat)
  case atStart => exact ⟨0, by omega, rfl, hide ⟨0, rfl⟩⟩
  case round =>
    obtain ⟨k, hk, rfl, HW⟩ := hrel
    by_cases hlt : k < l.length
    · have hlt' : (k : Int) < (l.length : Int) := by omega
      obtain ⟨b, off, rfl, hc⟩ := h3 (by omega)
      obtain ⟨b', off', rfl, hc'⟩ := h3' (by omega)
      have hck : wr.cell? _ = _ := (by obtain ⟨m, hm⟩ := unhide HW; rw [hm]; rfl : wr.cell? _ = w.cell? _).trans (hc k _ (iv_get l k hlt))
      have hck' : wr.cell? _ = _ := (by obtain ⟨m, hm⟩ := unhide HW; rw [hm]; rfl : wr.cell? _ = w.cell? _).trans (hc' k _ (iv_get l k hlt))
      obtain ⟨z, hz⟩ : ∃ z, z = l.getD k 0 := ⟨_, rfl⟩
      rw [← hz] at hck hck'
      clear hz hc hc'
      go_wp2_with fail
      go_quiet (fail)
      go_wp2_with fail
      go_roundw
      case rel => exact ⟨k + 1, by omega, by go_num, hide (by obtain ⟨m, hm⟩ := unhide HW; exact ⟨_, (congrArg (World.drewN · _) hm).trans (World.drewN_drewN _ _ _)⟩)⟩
      case measure => simp [intOf]; omega
    · have ek : k = l.length := by omega
      subst ek
      go_wp2
      go_ret
      exact ⟨rfl, unhide HW⟩

/-- What the law calls abs. -/
def ab (n : Int) : Nat := if n < 0 then (-(n + 1)).toNat else n.toNat
theorem abs_any (w : World) (n : Int) (hn : -9223372036854775808 ≤ n ∧ n ≤ 9223372036854775807) :
    Calls Tryd.prog 18 #[.int .i64 n] w fun e w' => e = .returned (.int .i64 ((ab n : Nat) : Int)) ∧ w' = w := by
  unfold ab
  by_cases h : n < 0
  · rw [if_pos h]
    go_enter Tryd.func18, Tryd.ntmps18
    go_wp2
    go_ret
    simp; omega
  · rw [if_neg h]
    go_enter Tryd.func18, Tryd.ntmps18
    go_wp2
    go_ret
    simp; omega
theorem ab_le (n : Int) (hn : -9223372036854775808 ≤ n ∧ n ≤ 9223372036854775807) : ab n ≤ 9223372036854775807 := by
  unfold ab; split <;> omega
end Go.Proofs.YtcldmjjbiifejaaDoor
