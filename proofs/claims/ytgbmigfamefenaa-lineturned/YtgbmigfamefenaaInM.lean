/- Rows that begin somewhere in their block: copy, append there. No walk stands here. -/
import Derived.Test.YtgbmigfamefenaaEdg
import Derived.Laws.CopyRow
import Derived.Laws.CopyOwn
import Derived.Laws.AppendOwn
import Derived.Laws.Append
import Derived.Lib.AppendZeros
import Derived.Lib.Overlaps
import Derived.Shelf.Spec.SlicesInsertGrow
namespace Go.Proofs.Ytgbmigfamefenaa
open Go.RowKit Go.Maps Go.Sort
set_option linter.unusedVariables false

theorem run_copyK {P : Program} (w : World) (dT sT ty elem : TypeId) (k g o dLen dCap : Nat) (a : Addr) (sLen sCap : Nat) (cur : List Value) (t : TypeId) (cs : List Value)
    (hu : P.underlying dT = some (.slice elem)) (hs : (P.info? elem).map (·.size) = some k)
    (hg : w.heap[g]? = some (.cells cur.toArray t (0, 0))) (hn : cs.length = Nat.min sLen dLen * k)
    (hsrc : ∀ j v, cs[j]? = some v → w.cell? (a.add j) = some v) (hfit : o + cs.length ≤ cur.length) (h1 : ∀ v ∈ cs, v.oneCell' = true) :
    (Builtin.copy_ #[dT, sT] ty #[.slice (some ⟨g, o, none⟩) dLen dCap, .slice (some a) sLen sCap]).run P w =
      .ok (goInt (Nat.min sLen dLen)) (w.setRow g (cur.take o ++ cs ++ cur.drop (o + cs.length)).toArray) := by
  have hl := run_loadCells_list (P := P) w a cs hsrc
  have hst := run_storeCells_at P g o t cs 0 cur.toArray w hg (by simpa using hfit) h1
  cases hq : P.info? elem with
  | none => simp [hq] at hs
  | some i =>
    have hi : i.size = k := by simpa [hq] using hs
    simp [Builtin.copy_, run_underlying hu, Builtin.lenOf, Builtin.firstCells, sizeOf, typeInfo, hq, hi, ← hn, hl, hst]
theorem run_append_roomO {P : Program} (w : World) (t ty e : TypeId) (i : TypeInfo) (ht : P.underlying t = some (.slice e)) (hi : P.info? e = some i)
    (g o sLen sCap : Nat) (cur : List Value) (hg : w.heap[g]? = some (.cells cur.toArray e (0, 0)))
    (a : Addr) (m c : Nat) (news : List Value) (hl : news.length = m * i.size) (hnews : ∀ j u, news[j]? = some u → w.cell? (a.add j) = some u) (h1 : ∀ u ∈ news, u.oneCell' = true)
    (hroom : sLen + m ≤ sCap) (hfit : o + sLen * i.size + news.length ≤ cur.length) :
    (Builtin.append_ #[t, t] ty #[.slice (some ⟨g, o, none⟩) sLen sCap, .slice (some a) m c]).run P w =
      .ok (.slice (some ⟨g, o, none⟩) (sLen + m) sCap) (w.setRow g (cur.take (o + sLen * i.size) ++ news ++ cur.drop (o + sLen * i.size + news.length)).toArray) := by
  have hf := run_firstCells_some (P := P) w i.size m a m c news hl hnews
  have hst := run_storeCells_at P g (o + sLen * i.size) e news 0 cur.toArray w hg (by simpa using hfit) h1
  simp only [Nat.add_zero] at hst
  simp [Builtin.append_, run_underlying ht, sizeOf, typeInfo, hi, Builtin.lenOf, hroom, hf, Addr.add_lit, hst]
theorem kcs_drop (l : List K3) : ∀ i, kcs (l.drop i) = (kcs l).drop (i * 3) := by
  induction l with
  | nil => intro i; simp [kcs]
  | cons a l ih =>
    intro i
    cases i with
    | zero => simp
    | succ i =>
      show kcs (l.drop i) = (kc a ++ kcs l).drop ((i + 1) * 3)
      have hl : (kc a).length = 3 := rfl
      rw [ih i, List.drop_append, List.drop_of_length_le (l := kc a) (by rw [hl]; omega), List.nil_append, hl]
      congr 1
      omega
theorem kcs_take (l : List K3) : ∀ i, kcs (l.take i) = (kcs l).take (i * 3) := by
  induction l with
  | nil => intro i; simp [kcs]
  | cons a l ih =>
    intro i
    cases i with
    | zero => simp [kcs]
    | succ i =>
      show kc a ++ kcs (l.take i) = (kc a ++ kcs l).take ((i + 1) * 3)
      have hl : (kc a).length = 3 := rfl
      rw [ih i, List.take_append, List.take_of_length_le (l := kc a) (by rw [hl]; omega), hl]
      congr 2
      omega
/-- A row of keys of our own, that begins somewhere in its block. -/
structure RoO (w : World) (base : Nat) (v : Value) (l : List K3) (g o cap : Nat) (cur : List Value) : Prop where
  v : v = .slice (some ⟨g, o, none⟩) l.length cap
  bg : base ≤ g
  blk : w.heap[g]? = some (.cells cur.toArray 55 (0, 0))
  le : l.length ≤ cap
  fit : o + cap * 3 = cur.length
  big : cap ≤ maxLen
  is : (cur.drop o).take (l.length * 3) = kcs l
def RowO (w : World) (base : Nat) (v : Value) (l : List K3) : Prop := (v = .slice none 0 0 ∧ l = []) ∨ ∃ g o cap cur, RoO w base v l g o cap cur
theorem RowO.of_own {w : World} {base : Nat} {v : Value} {l : List K3} (h : OwK w base v l) : RowO w base v l := by
  rcases h.2 with ⟨h1, h2⟩ | ⟨g, cap, cur, h1, h2, h3, h4, h5, h6, h7⟩
  · exact .inl ⟨h1, List.eq_nil_of_length_eq_zero h2⟩
  · refine .inr ⟨g, 0, cap, cur.toList, h1, h2, by simpa using h3, h4, by simp [h6], h5, ?_⟩
    simpa using h7
theorem RoO.cell {w : World} {base : Nat} {v : Value} {l : List K3} {g o cap : Nat} {cur : List Value} (h : RoO w base v l g o cap cur) (j : Nat) (u : Value) (hu : (kcs l)[j]? = some u) : w.cell? ⟨g, o + j, none⟩ = some u := by
  have hj : j < l.length * 3 := by have := (List.getElem?_eq_some_iff.1 hu).1; rw [kcs_length] at this; exact this
  rw [← h.is, List.getElem?_take, if_pos hj, List.getElem?_drop] at hu
  unfold World.cell?
  simp [h.blk, hu]
theorem RoO.rds {w : World} {base : Nat} {v : Value} {l : List K3} {g o cap : Nat} {cur : List Value} (h : RoO w base v l g o cap cur) : RdsK 3 w v l.length (kcs l) := by
  refine ⟨_, _, h.v, kcs_length l, h.le, h.big, (fun q => by cases q), fun ad ha j u hj => ?_⟩
  cases ha
  rw [Addr.add_lit]
  exact h.cell j u hj
theorem RowO.rds {w : World} {base : Nat} {v : Value} {l : List K3} (h : RowO w base v l) : RdsK 3 w v l.length (kcs l) := by
  rcases h with ⟨rfl, rfl⟩ | ⟨g, o, cap, cur, h⟩
  · exact RdsK.nil _ _
  · exact h.rds
theorem RoO.below {w w' : World} {base : Nat} {v : Value} {l : List K3} {g o cap : Nat} {cur : List Value} (h : RoO w base v l g o cap cur) (hb : Below w.heap.size w w') : RoO w' base v l g o cap cur :=
  ⟨h.v, h.bg, by rw [hb.block _ (Array.getElem?_eq_some_iff.1 h.blk).1]; exact h.blk, h.le, h.fit, h.big, h.is⟩
theorem RowO.below {w w' : World} {base : Nat} {v : Value} {l : List K3} (h : RowO w base v l) (hb : Below w.heap.size w w') : RowO w' base v l := by
  rcases h with h | ⟨g, o, cap, cur, h⟩
  · exact .inl h
  · exact .inr ⟨g, o, cap, cur, h.below hb⟩
/-- v[i:]. -/
theorem RoO.cut {w : World} {base : Nat} {v : Value} {l : List K3} {g o cap : Nat} {cur : List Value} (h : RoO w base v l g o cap cur) (i : Nat) (hi : i < l.length) : RoO w base (.slice (some ⟨g, o + i * 3, none⟩) (l.length - i) (cap - i)) (l.drop i) g (o + i * 3) (cap - i) cur := by
  have hle := h.le
  refine ⟨by rw [List.length_drop], h.bg, h.blk, by rw [List.length_drop]; omega, ?_, by have := h.big; omega, ?_⟩
  · have := h.fit
    have e : (cap - i) * 3 = cap * 3 - i * 3 := by omega
    omega
  · have e1 : kcs (l.drop i) = (kcs l).drop (i * 3) := kcs_drop l i
    rw [e1, ← h.is, List.drop_take, List.drop_drop, List.length_drop]
    congr 1
    omega
theorem kcs_one (l : List K3) : ∀ u ∈ kcs l, u.oneCell' = true := by
  intro u hu
  obtain ⟨k, hk, h1⟩ := List.mem_flatMap.1 hu
  simp [kc] at h1
  rcases h1 with rfl | rfl | rfl <;> rfl
end Go.Proofs.Ytgbmigfamefenaa
