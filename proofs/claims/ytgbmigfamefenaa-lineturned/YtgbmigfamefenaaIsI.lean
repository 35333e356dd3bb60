/- The library's BinarySearch, Insert, Delete at rows of int of one's own: contracts. -/
import Derived.Test.YtgbmigfamefenaaBsI
import Derived.Test.YtgbmigfamefenaaPuA
namespace Go.Proofs.Ytgbmigfamefenaa
open Go.Shelf Go.RowKit Go.Maps Go.Sort
set_option linter.unusedVariables false

abbrev OwI (w : World) (v : Value) (l : List Int) : Prop := w.ownsRow 0 3 1 v l.length (iv l)
/-- A row's block, as a list of cells. -/
structure RI (w : World) (v : Value) (l : List Int) (g cap : Nat) (cur : List Value) : Prop where
  v : v = .slice (some ⟨g, 0, none⟩) l.length cap
  blk : w.heap[g]? = some (.cells cur.toArray 3 (0, 0))
  le : l.length ≤ cap
  big : cap ≤ maxLen
  fit : cur.length = cap
  is : cur.take l.length = iv l
theorem OwI.cases {w : World} {v : Value} {l : List Int} (h : OwI w v l) : (v = .slice none 0 0 ∧ l = []) ∨ ∃ g cap cur, RI w v l g cap cur := by
  rcases h.2 with ⟨h1, h2⟩ | ⟨g, cap, cur, h1, h2, h3, h4, h5, h6, h7⟩
  · exact .inl ⟨h1, List.length_eq_zero_iff.1 h2⟩
  · refine .inr ⟨g, cap, cur.toList, h1, by simpa using h3, h4, h5, by simpa using h6, ?_⟩
    rw [Nat.mul_one] at h7
    exact h7
theorem RI.own {w : World} {v : Value} {l : List Int} {g cap : Nat} {cur : List Value} (h : RI w v l g cap cur) : OwI w v l := by
  refine ⟨by simp [iv_length], .inr ⟨g, cap, cur.toArray, h.v, Nat.zero_le _, h.blk, h.le, h.big, by simp [h.fit], ?_⟩⟩
  rw [Nat.mul_one]
  exact h.is
theorem RI.cell {w : World} {v : Value} {l : List Int} {g cap : Nat} {cur : List Value} (h : RI w v l g cap cur) (j : Nat) (u : Value) (hj : cur[j]? = some u) : w.cell? ⟨g, j, none⟩ = some u := by
  unfold World.cell?
  simp [h.blk, hj]
theorem RI.at {w : World} {v : Value} {l : List Int} {g cap : Nat} {cur : List Value} (h : RI w v l g cap cur) (j : Nat) (u : Value) (hj : (iv l)[j]? = some u) : w.cell? ⟨g, j, none⟩ = some u := by
  refine h.cell j u ?_
  rw [← h.is, List.getElem?_take] at hj
  split at hj
  · exact hj
  · cases hj
theorem RI.lt {w : World} {v : Value} {l : List Int} {g cap : Nat} {cur : List Value} (h : RI w v l g cap cur) : g < w.heap.size := (Array.getElem?_eq_some_iff.1 h.blk).1
theorem RI.fz {w : World} {v : Value} {l : List Int} {g cap : Nat} {cur : List Value} (h : RI w v l g cap cur) (j : Nat) : w.frozen? ⟨g, j, none⟩ = false := by
  unfold World.frozen?
  simp [h.blk]
theorem RI.has {w : World} {v : Value} {l : List Int} {g cap : Nat} {cur : List Value} (h : RI w v l g cap cur) (j : Nat) (hj : j < cap) : (w.cell? ⟨g, j, none⟩).isSome = true := by
  have : j < cur.length := by rw [h.fit]; exact hj
  rw [h.cell j cur[j] (List.getElem?_eq_getElem this)]
  rfl
/-- Cells stored one behind the other. -/
theorem setCells_row {w : World} {g : Nat} {cur : List Value} (hb : w.heap[g]? = some (.cells cur.toArray 3 (0, 0))) : ∀ (vs : List Value) (o : Nat), o + vs.length ≤ cur.length → (w.setCells g o vs).heap[g]? = some (.cells (cur.take o ++ vs ++ cur.drop (o + vs.length)).toArray 3 (0, 0)) := by
  intro vs
  induction vs generalizing w cur with
  | nil => intro o h; simp [World.setCells, hb]
  | cons a vs ih =>
    intro o h
    simp only [List.length_cons] at h
    have h1 : (w.setCell ⟨g, o, none⟩ a).heap[g]? = some (.cells (cur.set o a).toArray 3 (0, 0)) := by
      have hq := heap_setCell_same w g o cur.toArray _ a hb
      rw [hq]
      simp
    show ((w.setCell ⟨g, o, none⟩ a).setCells g (o + 1) vs).heap[g]? = _
    rw [ih h1 (o + 1) (by simp; omega)]
    congr 3
    rw [List.set_eq_take_append_cons_drop, if_pos (by omega)]
    have e1 : (cur.take o ++ a :: cur.drop (o + 1)).take (o + 1) = cur.take o ++ [a] := by
      rw [List.take_append, List.take_of_length_le (by rw [List.length_take]; omega), List.length_take, Nat.min_eq_left (by omega), show o + 1 - o = 1 by omega]
      rfl
    have e2 : (cur.take o ++ a :: cur.drop (o + 1)).drop (o + 1 + vs.length) = cur.drop (o + (vs.length + 1)) := by
      rw [List.drop_append, List.drop_of_length_le (by rw [List.length_take]; omega), List.length_take, Nat.min_eq_left (by omega), show o + 1 + vs.length - o = vs.length + 1 by omega, List.nil_append, List.drop_succ_cons, List.drop_drop]
      congr 1; omega
    rw [e1, e2]
    simp
theorem grown_setCells (w : World) (g : Nat) (vs : List Value) (o : Nat) : w.grownBy (w.setCells g o vs) (some g) := by
  induction vs generalizing w o with
  | nil => exact World.grownBy.refl _ _
  | cons a vs ih =>
    have h1 : w.grownBy (w.setCell ⟨g, o, none⟩ a) (some g) := ⟨rfl, rfl, rfl, by simp, fun i hi hne => Below.heap_setCell _ _ _ _ (fun q => hne (by rw [q]))⟩
    have h2 := ih (w.setCell ⟨g, o, none⟩ a) (o + 1)
    exact ⟨h2.os.trans h1.os, h2.tape.trans h1.tape, h2.output.trans h1.output, Nat.le_trans h1.size h2.size, fun i hi hne => (h2.block i (Nat.lt_of_lt_of_le hi h1.size) hne).trans (h1.block i hi hne)⟩
end Go.Proofs.Ytgbmigfamefenaa
