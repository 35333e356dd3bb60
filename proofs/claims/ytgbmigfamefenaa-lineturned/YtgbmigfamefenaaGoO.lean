/- Contract: goOn. -/
import Derived.Test.YtgbmigfamefenaaIxF
namespace Go.Proofs.Ytgbmigfamefenaa
open Go.Shelf Go.RowKit Go.Maps Go.Sort
set_option linter.unusedVariables false

/-- Stretches as cells. -/
def scc (s : S3) : List Value := [.int .i64 s.1.1, .int .i64 s.1.2.1, .int .i64 s.1.2.2, .int .i64 s.2.1, .int .i64 s.2.2]
def scs (l : List S3) : List Value := l.flatMap scc
theorem scs_length (l : List S3) : (scs l).length = l.length * 5 := by
  unfold scs
  induction l with
  | nil => rfl
  | cons a l ih => rw [List.flatMap_cons, List.length_append, ih]; simp [scc]; omega
theorem scs_append (l m : List S3) : scs (l ++ m) = scs l ++ scs m := by simp [scs]
def OwS (w : World) (base : Nat) (v : Value) (l : List S3) : Prop := w.ownsRow base 57 5 v l.length (scs l)
theorem Try.info_stretch : (Try.prog.info? 57).map (fun i => (i.zero, i.size, i.bytes)) = some (some (.agg #[.int .i64 0, .int .i64 0, .int .i64 0, .int .i64 0, .int .i64 0]), 5, 40) := by kernel_rfl
theorem goF_last (l : List S3) (s : S3) (k : K3) (a b : Int) : goF (l ++ [s]) k a b = if s.1 = k then l ++ [(s.1, s.2.1, b)] else l ++ [s] ++ [(k, a, b)] := by
  unfold goF
  rw [List.getLast?_concat]
  simp only [List.dropLast_concat]
theorem row_last (l : List S3) (h : l ≠ []) : ∃ m s, l = m ++ [s] := ⟨l.dropLast, l.getLast h, (List.dropLast_concat_getLast h).symm⟩
/-- The last stretch's end in a row of our own. -/
theorem OwS.long {w : World} {base : Nat} {v : Value} {l : List S3} {s : S3} (h : OwS w base v (l ++ [s])) : ∃ g cap, v = .slice (some ⟨g, 0, none⟩) (l.length + 1) cap ∧ l.length + 1 ≤ cap ∧ base ≤ g ∧ g < w.heap.size ∧ (∀ c u, (scc s)[c]? = some u → w.cell? ⟨g, l.length * 5 + c, none⟩ = some u) ∧ w.frozen? ⟨g, l.length * 5 + 4, none⟩ = false ∧ ∀ b, OwS (w.setCell ⟨g, l.length * 5 + 4, none⟩ (.int .i64 b)) base v (l ++ [(s.1, s.2.1, b)]) := by
  rcases h.2 with ⟨_, h1⟩ | ⟨g, cap, cur, h1, h2, h3, h4, h5, h6, h7⟩
  · simp at h1
  · have hl : (l ++ [s]).length = l.length + 1 := by simp
    have hsl : (scs l).length = l.length * 5 := scs_length l
    have e0 : scs [s] = scc s := by simp [scs]
    have hcur : ∀ c u, (scc s)[c]? = some u → cur[l.length * 5 + c]? = some u := fun c u hu => by
      have hc : c < 5 := (List.getElem?_eq_some_iff.1 hu).1
      rw [← Array.getElem?_toList]
      have : (cur.toList.take ((l ++ [s]).length * 5))[l.length * 5 + c]? = some u := by
        rw [h7, scs_append, e0, List.getElem?_append_right (by omega), hsl, Nat.add_sub_cancel_left]
        exact hu
      rw [List.getElem?_take, if_pos (by rw [hl]; omega)] at this
      exact this
    have hcs : cur.size = cap * 5 := h6
    have hroom : l.length * 5 + 4 < cur.size := by rw [hcs]; rw [hl] at h4; omega
    refine ⟨g, cap, by rw [h1, hl], by rw [← hl]; exact h4, h2, (Array.getElem?_eq_some_iff.1 h3).1, fun c u hu => ?_, ?_, fun b => ⟨by rw [scs_length], .inr ⟨g, cap, cur.setIfInBounds (l.length * 5 + 4) (.int .i64 b), ?_, h2, ?_, ?_, h5, ?_, ?_⟩⟩⟩
    · unfold World.cell?
      simp [h3, hcur c u hu]
    · exact frozen_of_row w g _ _ _ h3
    · rw [h1]; simp
    · exact heap_setCell_same w g _ _ _ _ h3
    · simp at h4 ⊢; exact h4
    · simp [hcs]
    · have hl2 : (l ++ [(s.1, s.2.1, b)]).length = l.length + 1 := by simp
      rw [hl2, scs_append]
      have e1 : scs [(s.1, s.2.1, b)] = [.int .i64 s.1.1, .int .i64 s.1.2.1, .int .i64 s.1.2.2, .int .i64 s.2.1, .int .i64 b] := by simp [scs, scc]
      rw [e1]
      rw [hl] at h7
      have h7' : cur.toList.take ((l.length + 1) * 5) = scs l ++ scc s := by rw [h7, scs_append, e0]
      rw [Array.toList_setIfInBounds, List.take_set, h7', List.set_append_right _ _ (by omega), hsl, Nat.add_sub_cancel_left]
      rfl
end Go.Proofs.Ytgbmigfamefenaa
