/- Release where it refuses; Behind of what is gone; the same for intakes of a law's own. -/
import Derived.Test.YtmnlkmgpikilbaaRel
namespace Go.Proofs.Ytmnlkmgpikilbaa
open Go.RowKit Go.Maps Go.Sort
set_option linter.unusedVariables false

set_option maxRecDepth 20000 in
theorem release_nil (w : World) (x : Nat) (F : Nat → Prop) (l : Int) (sv : Value) (o : Kp) (h : InZ w x F l sv [] o) (hl : 1 ≤ l) (num : Int) :
    Calls Try.prog 22 #[.pointer (some ⟨x, 0, none⟩), .int .i64 num] w fun e w' => e = .returned (.int .i64 120) ∧ w' = w := by
  have kM := made_any _ x F l sv [] o h hl
  obtain ⟨a, c, hs⟩ := h.s.sl
  have c3 : w.cell? ⟨x, 3, none⟩ = some (.slice a 0 c) := by rw [show Value.slice a 0 c = sv from hs.symm]; exact h.b.cell 3 _ rfl
  have c4 : w.cell? ⟨x, 4, none⟩ = some (.int .i64 o.num) := h.b.cell 4 _ rfl
  clear h hs
  go_enter Try.func22, Try.ntmps22
  go_wp2_with (go_at_call 33; refine kM.mono ?_; rintro e w1 ⟨he1, hw1⟩; have hw1 := hw1.symm; subst he1; subst hw1)
  all_goals (
    go_ret
    exact ⟨rfl, rfl⟩)
set_option maxRecDepth 20000 in
theorem release_low (w : World) (x : Nat) (F : Nat → Prop) (l : Int) (sv : Value) (p : Kp) (Z : List Kp) (o : Kp) (h : InZ w x F l sv (p :: Z) o) (hl : 1 ≤ l) (num : Int) (hn : num < p.num) :
    Calls Try.prog 22 #[.pointer (some ⟨x, 0, none⟩), .int .i64 num] w fun e w' => e = .returned (.int .i64 120) ∧ w' = w := by
  have kM := made_any _ x F l sv (p :: Z) o h hl
  obtain ⟨g, q, c, hs, hc, hcm, k0, -, -, -, -⟩ := kept_cells h.s 0 (by simp)
  obtain ⟨N, hN⟩ : ∃ N, N = (p :: Z).length := ⟨_, rfl⟩
  have hN0 : 0 < N := by rw [hN]; simp
  rw [← hN] at hs hc
  have k0' : w.cell? ⟨g, q, none⟩ = some (.int .i64 p.num) := by simpa using k0
  have c3 : w.cell? ⟨x, 3, none⟩ = some (.slice (some ⟨g, q, none⟩) N c) := by rw [← hs]; exact h.b.cell 3 _ rfl
  have c4 : w.cell? ⟨x, 4, none⟩ = some (.int .i64 o.num) := h.b.cell 4 _ rfl
  have hNz : ¬ (N : Int) = 0 := by omega
  have hNb : ((N : Int) == 0) = false := by simpa using hNz
  have hNp : (0 : Int) < (N : Int) := by omega
  have hNl : (1 : Int) ≤ (N : Int) := by omega
  have hb1 : decide (num < p.num) = true := decide_eq_true hn
  clear h hs hN k0
  go_enter Try.func22, Try.ntmps22
  go_wp2_with (go_at_call 33; refine kM.mono ?_; rintro e w1 ⟨he1, hw1⟩; have hw1 := hw1.symm; subst he1; subst hw1)
  all_goals (
    go_ret
    exact ⟨rfl, rfl⟩)
set_option maxRecDepth 20000 in
theorem release_high (w : World) (x : Nat) (F : Nat → Prop) (l : Int) (sv : Value) (p : Kp) (Z : List Kp) (o : Kp) (h : InZ w x F l sv (p :: Z) o) (hl : 1 ≤ l) (num : Int) (hn : ¬ num < p.num) (hn2 : o.num ≤ num) :
    Calls Try.prog 22 #[.pointer (some ⟨x, 0, none⟩), .int .i64 num] w fun e w' => e = .returned (.int .i64 120) ∧ w' = w := by
  have kM := made_any _ x F l sv (p :: Z) o h hl
  obtain ⟨g, q, c, hs, hc, hcm, k0, -, -, -, -⟩ := kept_cells h.s 0 (by simp)
  obtain ⟨N, hN⟩ : ∃ N, N = (p :: Z).length := ⟨_, rfl⟩
  have hN0 : 0 < N := by rw [hN]; simp
  rw [← hN] at hs hc
  have k0' : w.cell? ⟨g, q, none⟩ = some (.int .i64 p.num) := by simpa using k0
  have c3 : w.cell? ⟨x, 3, none⟩ = some (.slice (some ⟨g, q, none⟩) N c) := by rw [← hs]; exact h.b.cell 3 _ rfl
  have c4 : w.cell? ⟨x, 4, none⟩ = some (.int .i64 o.num) := h.b.cell 4 _ rfl
  have hNz : ¬ (N : Int) = 0 := by omega
  have hNb : ((N : Int) == 0) = false := by simpa using hNz
  have hNp : (0 : Int) < (N : Int) := by omega
  have hNl : (1 : Int) ≤ (N : Int) := by omega
  have hb1 : decide (num < p.num) = false := decide_eq_false hn
  have hb2 : decide (o.num ≤ num) = true := decide_eq_true hn2
  clear h hs hN k0
  go_enter Try.func22, Try.ntmps22
  go_wp2_with (go_at_call 33; refine kM.mono ?_; rintro e w1 ⟨he1, hw1⟩; have hw1 := hw1.symm; subst he1; subst hw1)
  all_goals (
    go_ret
    exact ⟨rfl, rfl⟩)
set_option maxRecDepth 20000 in
theorem release_busy (w : World) (x : Nat) (F : Nat → Prop) (l : Int) (sv : Value) (p : Kp) (Z : List Kp) (o : Kp) (h : InZ w x F l sv (p :: Z) o) (hl : 1 ≤ l) (num : Int) (hn : p.num < num) (hn2 : ¬ o.num ≤ num) :
    Calls Try.prog 22 #[.pointer (some ⟨x, 0, none⟩), .int .i64 num] w fun e w' => e = .returned (.int .i64 191) ∧ w' = w := by
  have kM := made_any _ x F l sv (p :: Z) o h hl
  obtain ⟨g, q, c, hs, hc, hcm, k0, -, -, -, -⟩ := kept_cells h.s 0 (by simp)
  obtain ⟨N, hN⟩ : ∃ N, N = (p :: Z).length := ⟨_, rfl⟩
  have hN0 : 0 < N := by rw [hN]; simp
  rw [← hN] at hs hc
  have k0' : w.cell? ⟨g, q, none⟩ = some (.int .i64 p.num) := by simpa using k0
  have c3 : w.cell? ⟨x, 3, none⟩ = some (.slice (some ⟨g, q, none⟩) N c) := by rw [← hs]; exact h.b.cell 3 _ rfl
  have c4 : w.cell? ⟨x, 4, none⟩ = some (.int .i64 o.num) := h.b.cell 4 _ rfl
  have hNz : ¬ (N : Int) = 0 := by omega
  have hNb : ((N : Int) == 0) = false := by simpa using hNz
  have hNp : (0 : Int) < (N : Int) := by omega
  have hNl : (1 : Int) ≤ (N : Int) := by omega
  have hn3 : ¬ num < p.num := by omega
  have hb1 : decide (num < p.num) = false := decide_eq_false hn3
  have hb2 : decide (o.num ≤ num) = false := decide_eq_false hn2
  clear h hs hN k0
  go_enter Try.func22, Try.ntmps22
  go_wp2_with (go_at_call 33; refine kM.mono ?_; rintro e w1 ⟨he1, hw1⟩; have hw1 := hw1.symm; subst he1; subst hw1)
  all_goals (
    go_ret
    exact ⟨rfl, rfl⟩)
set_option maxRecDepth 20000 in
theorem behind_gone (w : World) (x : Nat) (F : Nat → Prop) (l : Int) (sv : Value) (Z : List Kp) (o : Kp) (h : InZ w x F l sv Z o) (hl : 1 ≤ l) (off : Nat) (hlo : off < rls Z o) :
    Calls Try.prog 21 #[.pointer (some ⟨x, 0, none⟩), .int .u64 (off : Int)] w fun e w' => e = .returned (.tuple #[nl, .int .u64 0, .int .i64 190]) ∧ w' = w := by
  have kM := made_any _ x F l sv Z o h hl
  have kR := released_any _ x F l sv Z o h
  obtain ⟨r0, hr0⟩ : ∃ r, r = rls Z o := ⟨_, rfl⟩
  rw [← hr0] at kR hlo
  have hz : (off : Int) < (r0 : Int) := by omega
  clear h hr0
  go_enter Try.func21, Try.ntmps21
  go_wp2_with (first
    | (go_at_call 33; refine kM.mono ?_; rintro e w1 ⟨he1, hw1⟩; have hw1 := hw1.symm; subst he1; subst hw1)
    | (go_at_call 39; refine kR.mono ?_; rintro e w1 ⟨he1, hw1⟩; have hw1 := hw1.symm; subst he1; subst hw1))
  exact bodyPost_ret (results_tmp3 rfl _ _ _) rfl ⟨rfl, rfl⟩
/-- For an intake of a law's own. -/
theorem St.rel_ok {w0 w : World} {x : Nat} {l : Int} {sv : Value} {p : Kp} {Z : List Kp} {o : Kp} (h : St w0 w x l sv (p :: Z) o) (hl : 1 ≤ l) (num : Int) (hn : num = p.num) (hlt : p.num < o.num) :
    Calls Try.prog 22 #[.pointer (some ⟨x, 0, none⟩), .int .i64 num] w fun e w' => e = .returned (.int .i64 0) ∧ ∃ sv', St w0 w' x l sv' Z o := by
  obtain ⟨F, h1, h2⟩ := h.ex
  refine (release_ok w x F l sv p Z o h1 hl num hn hlt).mono ?_
  rintro e w' ⟨he, ⟨sv', hi⟩, hf⟩
  exact ⟨he, sv', ⟨F, hi, h2⟩, h.bl.trans (hf.below h.bl.size h2)⟩
theorem St.rel_none {w0 w : World} {x : Nat} {l : Int} {sv : Value} {Z : List Kp} {o : Kp} (h : St w0 w x l sv Z o) (hl : 1 ≤ l) (num : Int) (hn : Z = [] ∨ (∃ p Z', Z = p :: Z' ∧ num < p.num) ∨ o.num ≤ num) :
    Calls Try.prog 22 #[.pointer (some ⟨x, 0, none⟩), .int .i64 num] w fun e w' => e = .returned (.int .i64 120) ∧ w' = w := by
  obtain ⟨F, h1, h2⟩ := h.ex
  cases Z with
  | nil => exact release_nil w x F l sv o h1 hl num
  | cons p Z =>
    by_cases hq : num < p.num
    · exact release_low w x F l sv p Z o h1 hl num hq
    · refine release_high w x F l sv p Z o h1 hl num hq ?_
      rcases hn with h | ⟨p', Z', h, h'⟩ | h
      · cases h
      · injection h with h3 h4
        subst h3
        exact absurd h' hq
      · exact h
theorem St.rel_busy {w0 w : World} {x : Nat} {l : Int} {sv : Value} {p : Kp} {Z : List Kp} {o : Kp} (h : St w0 w x l sv (p :: Z) o) (hl : 1 ≤ l) (num : Int) (hn : p.num < num) (hn2 : num < o.num) :
    Calls Try.prog 22 #[.pointer (some ⟨x, 0, none⟩), .int .i64 num] w fun e w' => e = .returned (.int .i64 191) ∧ w' = w := by
  obtain ⟨F, h1, h2⟩ := h.ex
  exact release_busy w x F l sv p Z o h1 hl num hn (by omega)
theorem St.gone {w0 w : World} {x : Nat} {l : Int} {sv : Value} {Z : List Kp} {o : Kp} (h : St w0 w x l sv Z o) (hl : 1 ≤ l) (off : Nat) (hlo : off < rls Z o) :
    Calls Try.prog 21 #[.pointer (some ⟨x, 0, none⟩), .int .u64 (off : Int)] w fun e w' => e = .returned (.tuple #[nl, .int .u64 0, .int .i64 190]) ∧ w' = w := by
  obtain ⟨F, h1, h2⟩ := h.ex
  exact behind_gone w x F l sv Z o h1 hl off hlo
end Go.Proofs.Ytmnlkmgpikilbaa
