/- What is said of rows of cells in memory, and of rows of texts. No walk stands here. -/
import Derived.Test.YtfhldldcfdimhaaRefNums
import Derived.Test.YtfhldldcfdimhaaDMath
import Derived.Laws.OwnMore
import Derived.Lib.Strings
namespace Go.Proofs.Ytfhldldcfdimhaa
open Go.RowKit

/-- A slice value reads as these cells: nil and nothing, or an address from which they lie. -/
def Rds (w : World) (v : Value) (xs : List Value) : Prop :=
  ∃ ao cap, v = .slice ao xs.length cap ∧ xs.length ≤ cap ∧ cap ≤ maxLen ∧ (ao = none → xs.length = 0 ∧ cap = 0) ∧
    ∀ ad, ao = some ad → ∀ j u, xs[j]? = some u → w.cell? (ad.add j) = some u
theorem Rds.nil (w : World) : Rds w (.slice none 0 0) [] := ⟨none, 0, rfl, Nat.le_refl _, Nat.zero_le _, fun _ => ⟨rfl, rfl⟩, fun _ h => by cases h⟩
/-- An owned row of cells of the type e. -/
def Own (w : World) (base e : Nat) (v : Value) (xs : List Value) : Prop := w.ownsRow base e 1 v xs.length xs
theorem Own.rds {w : World} {base e : Nat} {v : Value} {xs : List Value} (h : Own w base e v xs) : Rds w v xs := by
  have hc := h
  rcases h.2 with ⟨rfl, hn⟩ | ⟨g, cap, cur, rfl, hb, hg, hnc, hcm, hcs, ht⟩
  · have : xs = [] := List.eq_nil_of_length_eq_zero hn
    subst this
    exact Rds.nil w
  · refine ⟨some ⟨g, 0, none⟩, cap, rfl, hnc, hcm, (fun h => by cases h), ?_⟩
    rintro ad ⟨rfl⟩
    exact fun j u hj => World.ownsRow.cells hc rfl j u hj
theorem Rds.below {w w' : World} {v : Value} {xs : List Value} (h : Rds w v xs) (hb : Below w.heap.size w w') : Rds w' v xs := by
  obtain ⟨ao, cap, rfl, h1, h2, h3, h4⟩ := h
  refine ⟨ao, cap, rfl, h1, h2, h3, fun ad ha j u hj => ?_⟩
  have hc := h4 ad ha j u hj
  rw [hb.cell (World.block_lt_of_cell? _ _ hc)]
  exact hc
theorem Own.mono {w : World} {base base' e : Nat} {v : Value} {xs : List Value} (h : Own w base e v xs) (hb : base' ≤ base) : Own w base' e v xs := by
  refine ⟨h.1, ?_⟩
  rcases h.2 with h2 | ⟨g, cap, cur, h1, h2, h3⟩
  · exact .inl h2
  · exact .inr ⟨g, cap, cur, h1, by omega, h3⟩
theorem Own.below {w w' : World} {base e : Nat} {v : Value} {xs : List Value} (h : Own w base e v xs) (hb : Below w.heap.size w w') : Own w' base e v xs := by
  refine ⟨h.1, ?_⟩
  rcases h.2 with h2 | ⟨g, cap, cur, h1, h2, h3, h4⟩
  · exact .inl h2
  · refine .inr ⟨g, cap, cur, h1, h2, ?_, h4⟩
    rw [hb.block g (Array.getElem?_eq_some_iff.1 h3).1]
    exact h3
theorem Rds.cells {w : World} {ao : Option Addr} {n cap : Nat} {xs : List Value} (h : Rds w (.slice ao n cap) xs) :
    n = xs.length ∧ xs.length ≤ cap ∧ cap ≤ maxLen ∧ (0 < xs.length → ∃ b off, ao = some ⟨b, off, none⟩ ∧ ∀ i u, xs[i]? = some u → w.cell? ⟨b, off + i, none⟩ = some u) := by
  obtain ⟨ao', cap', he, h1, h2, h3, h4⟩ := h
  simp only [Value.slice.injEq] at he
  obtain ⟨rfl, rfl, rfl⟩ := he
  refine ⟨rfl, h1, h2, fun hp => ?_⟩
  cases ao with
  | none => have := (h3 rfl).1; omega
  | some ad =>
    obtain ⟨b, off, sp⟩ := ad
    have hc := h4 _ rfl
    have hs : sp = none := by
      have := World.cell?_spot (hc 0 _ (List.getElem?_eq_getElem hp))
      simpa [Addr.add] using this
    subst hs
    exact ⟨b, off, rfl, fun i u hi => by rw [← Addr.add_lit]; exact hc i _ hi⟩
theorem grown_trans {a b c : World} {r : Option Nat} (h : a.grownBy b r) (k : b.grownBy c r) : a.grownBy c r :=
  ⟨k.os.trans h.os, k.tape.trans h.tape, k.output.trans h.output, Nat.le_trans h.size k.size, fun i hi hr => (k.block i (Nat.lt_of_lt_of_le hi h.size) hr).trans (h.block i hi hr)⟩

/-- Texts as cells. -/
def sv (ts : List Str) : List Value := ts.map fun t => Value.string ⟨t.toArray⟩
theorem sv_length (ts : List Str) : (sv ts).length = ts.length := by simp [sv]
theorem sv_append (l m : List Str) : sv (l ++ m) = sv l ++ sv m := by simp [sv]
theorem sv_one (ts : List Str) : ∀ u ∈ sv ts, u.oneCell' = true := by
  intro u hu; simp [sv] at hu; obtain ⟨c, _, rfl⟩ := hu; rfl
theorem sv_get (ts : List Str) (i : Nat) (h : i < ts.length) : (sv ts)[i]? = some (.string ⟨(ts.getD i []).toArray⟩) := by simp [sv, h]
theorem sv_set (ts : List Str) (i : Nat) (t : Str) : sv (ts.set i t) = (sv ts).set i (.string ⟨t.toArray⟩) := by simp [sv, List.map_set]
theorem Try.info_str : (Try.prog.info? 9).map (fun i => (i.zero, i.size, i.bytes)) = some (some (.string ⟨#[]⟩), 1, 16) := by kernel_rfl
theorem str_toList (t : Str) : (⟨t.toArray⟩ : ByteArray).toList = t := by rw [Lib.toList_data]
theorem str_size (t : Str) : (⟨t.toArray⟩ : ByteArray).size = t.length := by simp [ByteArray.size]

/-- The dictionary of texts behind a pointer. -/
structure IDict (w : World) (p : Value) (ts : List Str) : Prop where
  ex : ∃ B v, p = .pointer (some ⟨B, 0, none⟩) ∧ w.cell? ⟨B, 0, none⟩ = some v ∧ Rds w v (sv ts)
  ris : Ris ts
  le : ts.length ≤ 4096
  few : ∀ t ∈ ts, t.length ≤ 64
theorem IDict.below {w w' : World} {p : Value} {ts : List Str} (h : IDict w p ts) (hb : Below w.heap.size w w') : IDict w' p ts := by
  obtain ⟨B, v, rfl, h1, h2⟩ := h.ex
  exact ⟨⟨B, v, rfl, by rw [hb.cell (World.block_lt_of_cell? _ _ h1)]; exact h1, h2.below hb⟩, h.ris, h.le, h.few⟩
theorem IDict.len {w : World} {p : Value} {ts : List Str} (h : IDict w p ts) (i : Nat) : (ts.getD i []).length ≤ 64 := by
  by_cases hi : i < ts.length
  · rw [getD_at hi]; exact h.few _ (List.getElem_mem hi)
  · simp [hi]
/-- A dictionary, or none. -/
def ND (w : World) (p : Value) (ts : List Str) : Prop := (p = .pointer none ∧ ts = []) ∨ IDict w p ts
theorem ND.below {w w' : World} {p : Value} {ts : List Str} (h : ND w p ts) (hb : Below w.heap.size w w') : ND w' p ts := h.imp id fun h => h.below hb
theorem ND.ris {w : World} {p : Value} {ts : List Str} (h : ND w p ts) : Ris ts := by
  rcases h with ⟨_, rfl⟩ | h
  · exact List.Pairwise.nil
  · exact h.ris
theorem ND.le {w : World} {p : Value} {ts : List Str} (h : ND w p ts) : ts.length ≤ 4096 := by
  rcases h with ⟨_, rfl⟩ | h
  · simp
  · exact h.le
/-- Where the texts of a dictionary with texts lie. -/
theorem ND.some {w : World} {p : Value} {ts : List Str} (h : ND w p ts) (h0 : 0 < ts.length) :
    ∃ B b off cap, p = .pointer (.some ⟨B, 0, none⟩) ∧ w.cell? ⟨B, 0, none⟩ = .some (.slice (.some ⟨b, off, none⟩) ts.length cap) ∧ ts.length ≤ cap ∧ cap ≤ maxLen ∧
      ∀ i, i < ts.length → w.cell? ⟨b, off + i, none⟩ = .some (.string ⟨(ts.getD i []).toArray⟩) := by
  rcases h with ⟨_, rfl⟩ | h
  · simp at h0
  · obtain ⟨B, v, rfl, h1, h2⟩ := h.ex
    obtain ⟨ao, n, cap, rfl⟩ : ∃ ao n cap, v = .slice ao n cap := by obtain ⟨ao, cap, rfl, _⟩ := h2; exact ⟨_, _, _, rfl⟩
    obtain ⟨rfl, h3, h4, h5⟩ := h2.cells
    simp only [sv_length] at *
    obtain ⟨b, off, rfl, hc⟩ := h5 h0
    exact ⟨B, b, off, cap, rfl, h1, h3, h4, fun i hi => hc i _ (sv_get ts i hi)⟩
end Go.Proofs.Ytfhldldcfdimhaa
