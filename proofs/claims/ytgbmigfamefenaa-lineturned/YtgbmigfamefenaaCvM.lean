/- Rows of stretches that are read; what covered tells. No walk stands here. -/
import Derived.Test.YtgbmigfamefenaaStr
namespace Go.Proofs.Ytgbmigfamefenaa
open Go.RowKit Go.Maps Go.Sort
set_option linter.unusedVariables false

theorem scs_get (l : List S3) (i c : Nat) (hi : i < l.length) (hc : c < 5) : (scs l)[i * 5 + c]? = (scc l[i])[c]? := by
  induction l generalizing i with
  | nil => simp at hi
  | cons a l ih =>
    have hl : (scc a).length = 5 := rfl
    cases i with
    | zero =>
      show (scc a ++ scs l)[0 * 5 + c]? = _
      rw [List.getElem?_append_left (by rw [hl]; omega)]
      simp
    | succ i =>
      show (scc a ++ scs l)[(i + 1) * 5 + c]? = _
      rw [List.getElem?_append_right (by rw [hl]; omega), hl, show (i + 1) * 5 + c - 5 = i * 5 + c by omega, ih i (by simpa using hi)]
      rfl
structure At5 (w : World) (b o : Nat) (s : S3) : Prop where
  c0 : w.cell? ⟨b, o, none⟩ = some (.int .i64 s.1.1)
  c1 : w.cell? ⟨b, o + 1, none⟩ = some (.int .i64 s.1.2.1)
  c2 : w.cell? ⟨b, o + 2, none⟩ = some (.int .i64 s.1.2.2)
  c3 : w.cell? ⟨b, o + 3, none⟩ = some (.int .i64 s.2.1)
  c4 : w.cell? ⟨b, o + 4, none⟩ = some (.int .i64 s.2.2)
theorem At5.below {w w' : World} {b o : Nat} {s : S3} (h : At5 w b o s) (hb : Below w.heap.size w w') : At5 w' b o s :=
  ⟨(hb.cell (World.block_lt_of_cell? _ _ h.c0)).trans h.c0, (hb.cell (World.block_lt_of_cell? _ _ h.c1)).trans h.c1, (hb.cell (World.block_lt_of_cell? _ _ h.c2)).trans h.c2, (hb.cell (World.block_lt_of_cell? _ _ h.c3)).trans h.c3, (hb.cell (World.block_lt_of_cell? _ _ h.c4)).trans h.c4⟩
theorem OwS.at5 {w : World} {base : Nat} {v : Value} {l : List S3} (h : OwS w base v l) : ∃ a c, v = .slice a l.length c ∧ l.length ≤ c ∧ c ≤ maxLen ∧ ((a = none ∧ c = 0) ∨ ∃ b, a = some ⟨b, 0, none⟩ ∧ ∀ i (hi : i < l.length), At5 w b (i * 5) l[i]) := by
  rcases h.2 with ⟨h1, h2⟩ | ⟨g, cap, cur, h1, h2, h3, h4, h5, h6, h7⟩
  · exact ⟨none, 0, by rw [h1, h2], by omega, Nat.zero_le _, .inl ⟨rfl, rfl⟩⟩
  · refine ⟨some ⟨g, 0, none⟩, cap, h1, h4, h5, .inr ⟨g, rfl, fun i hi => ?_⟩⟩
    have hc : ∀ c u, c < 5 → (scc l[i])[c]? = some u → w.cell? ⟨g, i * 5 + c, none⟩ = some u := fun c u hc hu => by
      have hcur : cur[i * 5 + c]? = some u := by
        rw [← Array.getElem?_toList]
        have : (cur.toList.take (l.length * 5))[i * 5 + c]? = some u := by rw [h7, scs_get l i c hi hc]; exact hu
        rw [List.getElem?_take, if_pos (by omega)] at this
        exact this
      unfold World.cell?
      simp [h3, hcur]
    exact ⟨hc 0 _ (by omega) rfl, hc 1 _ (by omega) rfl, hc 2 _ (by omega) rfl, hc 3 _ (by omega) rfl, hc 4 _ (by omega) rfl⟩
/-- From bare on others stand ahead. -/
def covF (k : K3) : Int → List S3 → Bool
  | bare, [] => decide (k.2.1 ≤ bare)
  | bare, s :: l => if k.2.1 ≤ bare then true else if bare < s.2.1 then false else if gaB s.1 k then covF k s.2.2 l else false
def cvAt (k : K3) (l : List S3) : Nat := l.countP fun s => !decide (k.1 < s.2.2)
def cov (k : K3) (l : List S3) : Bool := covF k k.1 (l.drop (cvAt k l))
theorem cvAt_le (k : K3) (l : List S3) : cvAt k l ≤ l.length := List.countP_le_length
def s00 : S3 := ((0, 0, 0), 0, 0)
theorem cvAt_range (k : K3) (l : List S3) : (List.range l.length).countP (fun i => !decide (k.1 < (l.getD i s00).2.2)) = cvAt k l := by
  unfold cvAt
  have h : l = (List.range l.length).map (fun i => l.getD i s00) := by
    apply List.ext_getElem
    · simp
    · intro i h1 h2
      simp [List.getD, h1]
  conv => rhs; rw [h, List.countP_map]
  rfl
theorem Say.ends {L : List K3} {out : List S3} {e : Int} (h : Say L out e) : out.Pairwise fun a b => a.2.2 ≤ b.2.2 :=
  List.Pairwise.imp_of_mem (fun {a b} ha hb q => by have := h.ne b hb; omega) h.ch
end Go.Proofs.Ytgbmigfamefenaa
