/- What is said of rows of cells in memory, of texts and numbers. No walk stands here. -/
import Derived.Test.YtiiihjihegilnaaGreatDoorProg
import Derived.WalkKit
import Derived.Below
import Derived.WalkSpells
import Derived.OwnWalk
import Derived.Laws.OwnMore
import Derived.Lib.Strings
import Derived.Shelf.SlSorted.Search
namespace Go.Proofs.YtiiihjihegilnaaGreatDoor
open Go.RowKit Go.Sort

abbrev Str := List UInt8
theorem hide {p : Prop} (h : p) : Hid p := h
theorem ret_int {k : IntKind} {a b : Int} (h : a = b) : Ending.returned (.int k a) = .returned (.int k b) := by rw [h]
theorem unhide {p : Prop} (h : Hid p) : p := h
theorem below_dN {B : Nat} {a w : World} (h : Below B a w) (n : Nat) : Below B a (w.drewN n) := ⟨h.os, h.tape, h.output, h.size, h.block⟩
theorem getD_at {l : List Str} {i : Nat} (hi : i < l.length) : l.getD i [] = l[i] := by simp [hi]

/-- A slice value reads as these cells: nil and nothing, or an address from which they lie. -/
def Rds (w : World) (v : Value) (xs : List Value) : Prop :=
  ∃ ao cap, v = .slice ao xs.length cap ∧ xs.length ≤ cap ∧ cap ≤ maxLen ∧ (ao = none → xs.length = 0 ∧ cap = 0) ∧
    ∀ ad, ao = some ad → ∀ j u, xs[j]? = some u → w.cell? (ad.add j) = some u
theorem Rds.nil (w : World) : Rds w (.slice none 0 0) [] := ⟨none, 0, rfl, Nat.le_refl _, Nat.zero_le _, fun _ => ⟨rfl, rfl⟩, fun _ h => by cases h⟩
/-- An owned row of cells of the type e. -/
def Own (w : World) (base e : Nat) (v : Value) (xs : List Value) : Prop := w.ownsRow base e 1 v xs.length xs
theorem Own.rds {w : World} {base e : Nat} {v : Value} {xs : List Value} (h : Own w base e v xs) : Rds w v xs := by
  have hc := h
  rcases h.2 with ⟨rfl, hn⟩ | ⟨g, cap, cur, rfl, hb, hg, hnc, hcm, hcs, ht⟩
  · have : xs = [] := List.eq_nil_of_length_eq_zero hn
    subst this
    exact Rds.nil w
  · refine ⟨some ⟨g, 0, none⟩, cap, rfl, hnc, hcm, (fun h => by cases h), ?_⟩
    rintro ad ⟨rfl⟩
    exact fun j u hj => World.ownsRow.cells hc rfl j u hj
theorem Rds.below {w w' : World} {v : Value} {xs : List Value} (h : Rds w v xs) (hb : Below w.heap.size w w') : Rds w' v xs := by
  obtain ⟨ao, cap, rfl, h1, h2, h3, h4⟩ := h
  refine ⟨ao, cap, rfl, h1, h2, h3, fun ad ha j u hj => ?_⟩
  have hc := h4 ad ha j u hj
  rw [hb.cell (World.block_lt_of_cell? _ _ hc)]
  exact hc
theorem Own.mono {w : World} {base base' e : Nat} {v : Value} {xs : List Value} (h : Own w base e v xs) (hb : base' ≤ base) : Own w base' e v xs := by
  refine ⟨h.1, ?_⟩
  rcases h.2 with h2 | ⟨g, cap, cur, h1, h2, h3⟩
  · exact .inl h2
  · exact .inr ⟨g, cap, cur, h1, by omega, h3⟩
theorem Own.below {w w' : World} {base e : Nat} {v : Value} {xs : List Value} (h : Own w base e v xs) (hb : Below w.heap.size w w') : Own w' base e v xs := by
  refine ⟨h.1, ?_⟩
  rcases h.2 with h2 | ⟨g, cap, cur, h1, h2, h3, h4⟩
  · exact .inl h2
  · refine .inr ⟨g, cap, cur, h1, h2, ?_, h4⟩
    rw [hb.block g (Array.getElem?_eq_some_iff.1 h3).1]
    exact h3
theorem Rds.cells {w : World} {ao : Option Addr} {n cap : Nat} {xs : List Value} (h : Rds w (.slice ao n cap) xs) :
    n = xs.length ∧ xs.length ≤ cap ∧ cap ≤ maxLen ∧ (0 < xs.length → ∃ b off, ao = some ⟨b, off, none⟩ ∧ ∀ i u, xs[i]? = some u → w.cell? ⟨b, off + i, none⟩ = some u) := by
  obtain ⟨ao', cap', he, h1, h2, h3, h4⟩ := h
  simp only [Value.slice.injEq] at he
  obtain ⟨rfl, rfl, rfl⟩ := he
  refine ⟨rfl, h1, h2, fun hp => ?_⟩
  cases ao with
  | none => have := (h3 rfl).1; omega
  | some ad =>
    obtain ⟨b, off, sp⟩ := ad
    have hc := h4 _ rfl
    have hs : sp = none := by
      have := World.cell?_spot (hc 0 _ (List.getElem?_eq_getElem hp))
      simpa [Addr.add] using this
    subst hs
    exact ⟨b, off, rfl, fun i u hi => by rw [← Addr.add_lit]; exact hc i _ hi⟩
theorem grown_trans {a b c : World} {r : Option Nat} (h : a.grownBy b r) (k : b.grownBy c r) : a.grownBy c r :=
  ⟨k.os.trans h.os, k.tape.trans h.tape, k.output.trans h.output, Nat.le_trans h.size k.size, fun i hi hr => (k.block i (Nat.lt_of_lt_of_le hi h.size) hr).trans (h.block i hi hr)⟩

/-- Texts as cells. -/
def sv (ts : List Str) : List Value := ts.map fun t => Value.string ⟨t.toArray⟩
theorem sv_length (ts : List Str) : (sv ts).length = ts.length := by simp [sv]
theorem sv_append (l m : List Str) : sv (l ++ m) = sv l ++ sv m := by simp [sv]
theorem sv_one (ts : List Str) : ∀ u ∈ sv ts, u.oneCell' = true := by
  intro u hu; simp [sv] at hu; obtain ⟨c, _, rfl⟩ := hu; rfl
theorem sv_get (ts : List Str) (i : Nat) (h : i < ts.length) : (sv ts)[i]? = some (.string ⟨(ts.getD i []).toArray⟩) := by simp [sv, h]
theorem sv_set (ts : List Str) (i : Nat) (t : Str) : sv (ts.set i t) = (sv ts).set i (.string ⟨t.toArray⟩) := by simp [sv, List.map_set]
theorem Tryz.info_str : (Tryz.prog.info? 9).map (fun i => (i.zero, i.size, i.bytes)) = some (some (.string ⟨#[]⟩), 1, 16) := by kernel_rfl
theorem str_toList (t : Str) : (⟨t.toArray⟩ : ByteArray).toList = t := by rw [Lib.toList_data]
theorem str_size (t : Str) : (⟨t.toArray⟩ : ByteArray).size = t.length := by simp [ByteArray.size]

/-- Numbers as cells. -/
def iv (l : List Int) : List Value := l.map fun z => Value.int .i64 z
theorem iv_length (l : List Int) : (iv l).length = l.length := by simp [iv]
theorem iv_get (l : List Int) (i : Nat) (h : i < l.length) : (iv l)[i]? = some (.int .i64 (l.getD i 0)) := by simp [iv, h]
theorem iv_one (l : List Int) : ∀ u ∈ iv l, u.oneCell' = true := by
  intro u hu; simp [iv] at hu; obtain ⟨c, _, rfl⟩ := hu; rfl

/-- A world further on: it has drawn, and blocks were laid behind. -/
def Grows (w w' : World) : Prop := ∃ q os, w' = grow (w.drewN q) os
theorem Grows.refl (w : World) : Grows w w := ⟨0, #[], by rw [grow_empty]; rfl⟩
theorem Grows.drewN (w : World) (n : Nat) : Grows w (w.drewN n) := ⟨n, #[], by rw [grow_empty]⟩
theorem Grows.alloc (w : World) (o : Obj) : Grows w (w.alloc o) := ⟨0, #[o], by rw [show w.drewN 0 = w from rfl, alloc_eq_grow]⟩
theorem Grows.trans {a b c : World} (h : Grows a b) (k : Grows b c) : Grows a c := by
  obtain ⟨q, os, rfl⟩ := h
  obtain ⟨q', os', rfl⟩ := k
  refine ⟨q + q', os ++ os', ?_⟩
  show grow (grow ((a.drewN q).drewN q') os) os' = _
  rw [grow_grow, World.drewN_drewN]
theorem Grows.below {w w' : World} (h : Grows w w') : Below w.heap.size w w' := by
  obtain ⟨q, os, rfl⟩ := h
  exact below_grown_sl _ w q os (Nat.le_refl _)

/-- A slice value reads as n elements of k cells each. -/
def RdsK (k : Nat) (w : World) (v : Value) (n : Nat) (xs : List Value) : Prop :=
  ∃ ao cap, v = .slice ao n cap ∧ xs.length = n * k ∧ n ≤ cap ∧ cap ≤ maxLen ∧ (ao = none → n = 0 ∧ cap = 0) ∧
    ∀ ad, ao = some ad → ∀ j u, xs[j]? = some u → w.cell? (ad.add j) = some u
theorem RdsK.nil (k : Nat) (w : World) : RdsK k w (.slice none 0 0) 0 [] := ⟨none, 0, rfl, by simp, Nat.le_refl _, Nat.zero_le _, fun _ => ⟨rfl, rfl⟩, fun _ h => by cases h⟩
theorem RdsK.below {k n : Nat} {w w' : World} {v : Value} {xs : List Value} (h : RdsK k w v n xs) (hb : Below w.heap.size w w') : RdsK k w' v n xs := by
  obtain ⟨ao, cap, rfl, h0, h1, h2, h3, h4⟩ := h
  refine ⟨ao, cap, rfl, h0, h1, h2, h3, fun ad ha j u hj => ?_⟩
  have hc := h4 ad ha j u hj
  rw [hb.cell (World.block_lt_of_cell? _ _ hc)]
  exact hc
theorem RdsK.of_own {k base e n : Nat} {w : World} {v : Value} {xs : List Value} (h : w.ownsRow base e k v n xs) : RdsK k w v n xs := by
  have hc := h
  rcases h.2 with ⟨rfl, rfl⟩ | ⟨g, cap, cur, rfl, hb, hg, hnc, hcm, hcs, ht⟩
  · have : xs = [] := List.eq_nil_of_length_eq_zero (by simpa using h.1)
    subst this
    exact RdsK.nil k w
  · refine ⟨some ⟨g, 0, none⟩, cap, rfl, h.1, hnc, hcm, (fun h => by cases h), ?_⟩
    rintro ad ⟨rfl⟩
    exact fun j u hj => World.ownsRow.cells hc rfl j u hj
theorem RdsK.cells {k : Nat} {w : World} {ao : Option Addr} {n m cap : Nat} {xs : List Value} (hk : 0 < k) (h : RdsK k w (.slice ao n cap) m xs) :
    n = m ∧ xs.length = m * k ∧ m ≤ cap ∧ cap ≤ maxLen ∧ (0 < m → ∃ b off, ao = some ⟨b, off, none⟩ ∧ ∀ i u, xs[i]? = some u → w.cell? ⟨b, off + i, none⟩ = some u) ∧ (ao = none → m = 0 ∧ cap = 0) := by
  obtain ⟨ao', cap', he, h0, h1, h2, h3, h4⟩ := h
  simp only [Value.slice.injEq] at he
  obtain ⟨rfl, rfl, rfl⟩ := he
  refine ⟨rfl, h0, h1, h2, fun hp => ?_, h3⟩
  cases ao with
  | none => have := (h3 rfl).1; omega
  | some ad =>
    obtain ⟨b, off, sp⟩ := ad
    have hc := h4 _ rfl
    have hl : 0 < xs.length := by rw [h0]; exact Nat.mul_pos hp hk
    have hs : sp = none := by
      have := World.cell?_spot (hc 0 _ (List.getElem?_eq_getElem hl))
      simpa [Addr.add] using this
    subst hs
    exact ⟨b, off, rfl, fun i u hi => by rw [← Addr.add_lit]; exact hc i _ hi⟩

theorem cell_grow {w : World} {a : Addr} {v : Value} (h : w.cell? a = some v) (o : Obj) : (w.alloc o).cell? a = some v := cell_alloc_sl o h
theorem slice_one {w : World} {v : Value} {xs : List Value} (h : Rds w v xs) : v.oneCell' = true := by obtain ⟨ao, cap, rfl, _⟩ := h; rfl
theorem Rds.sl {w : World} {v : Value} {xs : List Value} (h : Rds w v xs) : ∃ a n c, v = .slice a n c := by obtain ⟨ao, cap, rfl, _⟩ := h; exact ⟨_, _, _, rfl⟩
end Go.Proofs.YtiiihjihegilnaaGreatDoor
