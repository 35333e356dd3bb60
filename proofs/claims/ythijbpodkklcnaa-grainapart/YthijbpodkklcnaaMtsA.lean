/- Mathematics of Meet; boxes of spans. -/
import Derived.Test.YthijbpodkklcnaaAwake
import Derived.Deep.RegionHeld
import Derived.Deep.DeepCutAuto
namespace Go.Proofs.Ythijbpodkklcnaa
open Go.RowKit Go.Sort

theorem meet_comm (a b : Sp) : meet a b = meet b a := by
  unfold meet
  rw [Int.max_comm, Int.min_comm]
theorem meet_zero (c : Sp) : meet (0, 0) c = (0, 0) := by
  unfold meet
  rw [if_pos (by simp only; omega)]
theorem meet_assoc (a b c : Sp) : meet (meet a b) c = meet a (meet b c) := by
  obtain ⟨a1, a2⟩ := a; obtain ⟨b1, b2⟩ := b; obtain ⟨c1, c2⟩ := c
  by_cases h1 : min a2 b2 ≤ max a1 b1
  · have e1 : meet (a1, a2) (b1, b2) = (0, 0) := if_pos h1
    rw [e1, meet_zero]
    by_cases h2 : min b2 c2 ≤ max b1 c1
    · have e2 : meet (b1, b2) (c1, c2) = (0, 0) := if_pos h2
      rw [e2, meet_comm, meet_zero]
    · have e2 : meet (b1, b2) (c1, c2) = (max b1 c1, min b2 c2) := if_neg h2
      rw [e2]
      unfold meet
      rw [if_pos (by simp only; omega)]
  · have e1 : meet (a1, a2) (b1, b2) = (max a1 b1, min a2 b2) := if_neg h1
    rw [e1]
    by_cases h2 : min b2 c2 ≤ max b1 c1
    · have e2 : meet (b1, b2) (c1, c2) = (0, 0) := if_pos h2
      rw [e2, meet_comm (a1, a2), meet_zero]
      unfold meet
      rw [if_pos (by simp only; omega)]
    · have e2 : meet (b1, b2) (c1, c2) = (max b1 c1, min b2 c2) := if_neg h2
      rw [e2]
      unfold meet
      simp only
      rw [Int.max_assoc, Int.min_assoc]
theorem cov_meet (a b : Sp) : cov a (meet a b) = true := by
  obtain ⟨a1, a2⟩ := a; obtain ⟨b1, b2⟩ := b
  by_cases h1 : min a2 b2 ≤ max a1 b1
  · have e1 : meet (a1, a2) (b1, b2) = (0, 0) := if_pos h1
    rw [e1]; simp [cov, emp]
  · have e1 : meet (a1, a2) (b1, b2) = (max a1 b1, min a2 b2) := if_neg h1
    rw [e1]; simp [cov, emp]; omega
theorem cov_iff {a b : Sp} (h : emp b = false) : cov a b = decide (meet a b = b) := by
  obtain ⟨a1, a2⟩ := a; obtain ⟨b1, b2⟩ := b
  have hb : b1 < b2 := by simpa [emp] using h
  unfold cov
  rw [h, Bool.false_or, Bool.eq_iff_iff]
  simp only [Bool.and_eq_true, decide_eq_true_eq]
  by_cases h1 : min a2 b2 ≤ max a1 b1
  · have e1 : meet (a1, a2) (b1, b2) = (0, 0) := if_pos h1
    rw [e1, Prod.mk.injEq]
    omega
  · have e1 : meet (a1, a2) (b1, b2) = (max a1 b1, min a2 b2) := if_neg h1
    rw [e1, Prod.mk.injEq]
    omega

/-- A span lies in this block. -/
def At (w : World) (B : Nat) (s : Sp) : Prop := w.cell? ⟨B, 0, none⟩ = some (.int .i64 s.1) ∧ w.cell? ⟨B, 1, none⟩ = some (.int .i64 s.2)
theorem At.up {w w' : World} {B : Nat} {s : Sp} (h : At w B s) (hb : Below w.heap.size w w') : At w' B s :=
  ⟨by rw [hb.cell (World.block_lt_of_cell? _ _ h.1)]; exact h.1, by rw [hb.cell (World.block_lt_of_cell? _ _ h.2)]; exact h.2⟩
theorem At.new (w : World) (s : Sp) (B : Nat) (hB : B = w.heap.size) : At (w.alloc (.cells #[.int .i64 s.1, .int .i64 s.2] 23)) B s := by
  subst hB; exact ⟨by simp, by simp⟩

theorem Grows.cell {w w' : World} (h : Grows w w') {a : Addr} {v : Value} (hc : w.cell? a = some v) : w'.cell? a = some v := by
  rw [h.below.cell (World.block_lt_of_cell? _ _ hc)]; exact hc
theorem Grows.drew1 {w w' : World} (h : Grows w w') : Grows w w'.drew := h.trans (Grows.drewN _ 1)
theorem Grows.setCell {w W : World} (h : Grows w W) {a : Addr} (ha : w.heap.size ≤ a.block) (u : Value) : Grows w (W.setCell a u) := by
  obtain ⟨q, os, rfl⟩ := h
  refine ⟨q, ?_⟩
  unfold World.setCell grow
  simp only
  exact ⟨_, by rw [modify_append_right _ _ _ _ (show (w.drewN q).heap.size ≤ a.block from ha)]⟩
abbrev put2 (w : World) (g : Nat) (x y : Value) : World := (w.setCell ⟨g, 0, none⟩ x).setCell ⟨g, 1, none⟩ y
theorem Grows.put2 {w W : World} (h : Grows w W) {g : Nat} (hg : w.heap.size ≤ g) (x y : Value) : Grows w (put2 W g x y) :=
  (h.setCell (a := ⟨g, 0, none⟩) hg x).setCell (a := ⟨g, 1, none⟩) hg y
/-- An empty box of a span. -/
abbrev BoxZ (w : World) (p : Nat) : Prop := (w.cell? ⟨p, 0, none⟩ = some (.int .i64 0) ∧ w.cell? ⟨p, 1, none⟩ = some (.int .i64 0)) ∧ ∀ c, w.frozen? ⟨p, c, none⟩ = false
theorem BoxZ.lt {w : World} {p : Nat} (h : BoxZ w p) : p < w.heap.size := World.block_lt_of_cell? _ _ h.1.1
theorem BoxZ.up {w w' : World} {p : Nat} (h : BoxZ w p) (g : Grows w w') : BoxZ w' p :=
  ⟨⟨g.cell h.1.1, g.cell h.1.2⟩, fun c => by rw [g.below.frozen h.lt]; exact h.2 c⟩
theorem boxz0 (X : World) : BoxZ (X.alloc (.cells #[.int .i64 0, .int .i64 0] 23)) X.heap.size := by
  refine ⟨⟨?_, ?_⟩, fun c => ?_⟩ <;> simp
theorem boxz1 {X w' : World} (g : Grows (X.alloc (.cells #[.int .i64 0, .int .i64 0] 23)) w') : BoxZ w' X.heap.size := (boxz0 X).up g
theorem boxz1d {W w' : World} (g : Grows (W.drew.alloc (.cells #[.int .i64 0, .int .i64 0] 23)) w') : BoxZ w' W.heap.size := (boxz0 W.drew).up g
theorem boxz1e {W w' : World} (g : Grows (W.alloc (.cells #[.int .i64 0, .int .i64 0] 23)).drew w') : BoxZ w' W.heap.size := ((boxz0 W).up (Grows.refl _).drew1).up g
theorem put2_get {w : World} {p : Nat} (h : BoxZ w p) (x y : Value) : (put2 w p x y).cell? ⟨p, 0, none⟩ = some x ∧ (put2 w p x y).cell? ⟨p, 1, none⟩ = some y := by
  obtain ⟨⟨h0, h1⟩, -⟩ := h
  refine ⟨?_, ?_⟩
  · rw [World.cell?_setCell_other _ _ _ _ (by simp)]; exact World.cell?_setCell_same _ _ _ h0
  · exact World.cell?_setCell_same _ _ _ (by rw [World.cell?_setCell_other _ _ _ _ (by simp)]; exact h1)
theorem cell_gr {w : World} {a : Addr} {v : Value} (h : w.cell? a = some v) (n : Nat) (os : Array Obj) : (grow (w.drewN n) os).cell? a = some v := Grows.cell ⟨n, os, rfl⟩ h
end Go.Proofs.Ythijbpodkklcnaa
