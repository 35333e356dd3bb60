/- What the texts of filter hold, over this program's numbers. -/
import Derived.Test.YtpdlioidiobbbaaProg
import Derived.Test.YtpdlioidiobbbaaChecked
import Derived.WalkKit
import Derived.Below
import Derived.WalkSpells
import Derived.OwnWalk
import Derived.Laws.OwnMore
import Derived.Lib.Strings
import Derived.Shelf.SlSorted.Search
import Derived.Deep.LoopGhost
import Derived.OpenShut
import Derived.SliceStrings
import Derived.SizedLaws
namespace Go.Proofs.Ytpdlioidiobbbaa.Fi
open Go.RowKit Go.Sort Go.ChangeShapes Go.WideShapes

abbrev Str := List UInt8
/-- A slice value reads as these cells: nil and nothing, or an address from which they lie. -/
def Rds (w : World) (v : Value) (xs : List Value) : Prop :=
  ∃ ao cap, v = .slice ao xs.length cap ∧ xs.length ≤ cap ∧ cap ≤ maxLen ∧ (ao = none → xs.length = 0 ∧ cap = 0) ∧
    ∀ ad, ao = some ad → ∀ j u, xs[j]? = some u → w.cell? (ad.add j) = some u
theorem Rds.nil (w : World) : Rds w (.slice none 0 0) [] := ⟨none, 0, rfl, Nat.le_refl _, Nat.zero_le _, fun _ => ⟨rfl, rfl⟩, fun _ h => by cases h⟩
/-- An owned row of cells of the type e. -/
def Own (w : World) (base e : Nat) (v : Value) (xs : List Value) : Prop := w.ownsRow base e 1 v xs.length xs
theorem Own.rds {w : World} {base e : Nat} {v : Value} {xs : List Value} (h : Own w base e v xs) : Rds w v xs := by
  have hc := h
  rcases h.2 with ⟨rfl, hn⟩ | ⟨g, cap, cur, rfl, hb, hg, hnc, hcm, hcs, ht⟩
  · have : xs = [] := List.eq_nil_of_length_eq_zero hn
    subst this
    exact Rds.nil w
  · refine ⟨some ⟨g, 0, none⟩, cap, rfl, hnc, hcm, (fun h => by cases h), ?_⟩
    rintro ad ⟨rfl⟩
    exact fun j u hj => World.ownsRow.cells hc rfl j u hj
theorem Rds.below {w w' : World} {v : Value} {xs : List Value} (h : Rds w v xs) (hb : Below w.heap.size w w') : Rds w' v xs := by
  obtain ⟨ao, cap, rfl, h1, h2, h3, h4⟩ := h
  refine ⟨ao, cap, rfl, h1, h2, h3, fun ad ha j u hj => ?_⟩
  have hc := h4 ad ha j u hj
  rw [hb.cell (World.block_lt_of_cell? _ _ hc)]
  exact hc
theorem Own.below {w w' : World} {base e : Nat} {v : Value} {xs : List Value} (h : Own w base e v xs) (hb : Below w.heap.size w w') : Own w' base e v xs := by
  refine ⟨h.1, ?_⟩
  rcases h.2 with h2 | ⟨g, cap, cur, h1, h2, h3, h4⟩
  · exact .inl h2
  · refine .inr ⟨g, cap, cur, h1, h2, ?_, h4⟩
    rw [hb.block g (Array.getElem?_eq_some_iff.1 h3).1]
    exact h3
theorem Rds.cells {w : World} {ao : Option Addr} {n cap : Nat} {xs : List Value} (h : Rds w (.slice ao n cap) xs) :
    n = xs.length ∧ xs.length ≤ cap ∧ cap ≤ maxLen ∧ (0 < xs.length → ∃ b off, ao = some ⟨b, off, none⟩ ∧ ∀ i u, xs[i]? = some u → w.cell? ⟨b, off + i, none⟩ = some u) := by
  obtain ⟨ao', cap', he, h1, h2, h3, h4⟩ := h
  simp only [Value.slice.injEq] at he
  obtain ⟨rfl, rfl, rfl⟩ := he
  refine ⟨rfl, h1, h2, fun hp => ?_⟩
  cases ao with
  | none => have := (h3 rfl).1; omega
  | some ad =>
    obtain ⟨b, off, sp⟩ := ad
    have hc := h4 _ rfl
    have hs : sp = none := by
      have := World.cell?_spot (hc 0 _ (List.getElem?_eq_getElem hp))
      simpa [Addr.add] using this
    subst hs
    exact ⟨b, off, rfl, fun i u hi => by rw [← Addr.add_lit]; exact hc i _ hi⟩
/-- Texts as cells. -/
def sv (ts : List Str) : List Value := ts.map fun t => Value.string ⟨t.toArray⟩
theorem sv_length (ts : List Str) : (sv ts).length = ts.length := by simp [sv]
theorem str_size (t : Str) : (⟨t.toArray⟩ : ByteArray).size = t.length := by simp [ByteArray.size]

/-- Numbers as cells. -/
def iv (l : List Int) : List Value := l.map fun z => Value.int .i64 z
/-- A world further on: it has drawn, and blocks were laid behind. -/
def Grows (w w' : World) : Prop := ∃ q os, w' = grow (w.drewN q) os
theorem Grows.drewN (w : World) (n : Nat) : Grows w (w.drewN n) := ⟨n, #[], by rw [grow_empty]⟩
theorem Grows.alloc (w : World) (o : Obj) : Grows w (w.alloc o) := ⟨0, #[o], by rw [show w.drewN 0 = w from rfl, alloc_eq_grow]⟩
theorem Grows.trans {a b c : World} (h : Grows a b) (k : Grows b c) : Grows a c := by
  obtain ⟨q, os, rfl⟩ := h
  obtain ⟨q', os', rfl⟩ := k
  refine ⟨q + q', os ++ os', ?_⟩
  show grow (grow ((a.drewN q).drewN q') os) os' = _
  rw [grow_grow, World.drewN_drewN]
theorem Grows.below {w w' : World} (h : Grows w w') : Below w.heap.size w w' := by
  obtain ⟨q, os, rfl⟩ := h
  exact below_grown_sl _ w q os (Nat.le_refl _)

/-- A slice value reads as n elements of k cells each. -/
def RdsK (k : Nat) (w : World) (v : Value) (n : Nat) (xs : List Value) : Prop :=
  ∃ ao cap, v = .slice ao n cap ∧ xs.length = n * k ∧ n ≤ cap ∧ cap ≤ maxLen ∧ (ao = none → n = 0 ∧ cap = 0) ∧
    ∀ ad, ao = some ad → ∀ j u, xs[j]? = some u → w.cell? (ad.add j) = some u
theorem RdsK.nil (k : Nat) (w : World) : RdsK k w (.slice none 0 0) 0 [] := ⟨none, 0, rfl, by simp, Nat.le_refl _, Nat.zero_le _, fun _ => ⟨rfl, rfl⟩, fun _ h => by cases h⟩
theorem RdsK.below {k n : Nat} {w w' : World} {v : Value} {xs : List Value} (h : RdsK k w v n xs) (hb : Below w.heap.size w w') : RdsK k w' v n xs := by
  obtain ⟨ao, cap, rfl, h0, h1, h2, h3, h4⟩ := h
  refine ⟨ao, cap, rfl, h0, h1, h2, h3, fun ad ha j u hj => ?_⟩
  have hc := h4 ad ha j u hj
  rw [hb.cell (World.block_lt_of_cell? _ _ hc)]
  exact hc
theorem RdsK.of_own {k base e n : Nat} {w : World} {v : Value} {xs : List Value} (h : w.ownsRow base e k v n xs) : RdsK k w v n xs := by
  have hc := h
  rcases h.2 with ⟨rfl, rfl⟩ | ⟨g, cap, cur, rfl, hb, hg, hnc, hcm, hcs, ht⟩
  · have : xs = [] := List.eq_nil_of_length_eq_zero (by simpa using h.1)
    subst this
    exact RdsK.nil k w
  · refine ⟨some ⟨g, 0, none⟩, cap, rfl, h.1, hnc, hcm, (fun h => by cases h), ?_⟩
    rintro ad ⟨rfl⟩
    exact fun j u hj => World.ownsRow.cells hc rfl j u hj
theorem RdsK.cells {k : Nat} {w : World} {ao : Option Addr} {n m cap : Nat} {xs : List Value} (hk : 0 < k) (h : RdsK k w (.slice ao n cap) m xs) :
    n = m ∧ xs.length = m * k ∧ m ≤ cap ∧ cap ≤ maxLen ∧ (0 < m → ∃ b off, ao = some ⟨b, off, none⟩ ∧ ∀ i u, xs[i]? = some u → w.cell? ⟨b, off + i, none⟩ = some u) ∧ (ao = none → m = 0 ∧ cap = 0) := by
  obtain ⟨ao', cap', he, h0, h1, h2, h3, h4⟩ := h
  simp only [Value.slice.injEq] at he
  obtain ⟨rfl, rfl, rfl⟩ := he
  refine ⟨rfl, h0, h1, h2, fun hp => ?_, h3⟩
  cases ao with
  | none => have := (h3 rfl).1; omega
  | some ad =>
    obtain ⟨b, off, sp⟩ := ad
    have hc := h4 _ rfl
    have hl : 0 < xs.length := by rw [h0]; exact Nat.mul_pos hp hk
    have hs : sp = none := by
      have := World.cell?_spot (hc 0 _ (List.getElem?_eq_getElem hl))
      simpa [Addr.add] using this
    subst hs
    exact ⟨b, off, rfl, fun i u hi => by rw [← Addr.add_lit]; exact hc i _ hi⟩

theorem Rds.sl {w : World} {v : Value} {xs : List Value} (h : Rds w v xs) : ∃ a n c, v = .slice a n c := by obtain ⟨ao, cap, rfl, _⟩ := h; exact ⟨_, _, _, rfl⟩
/-- A filter as it lies in memory: its numbers, the values of its two slices, and what these read as. -/
inductive Tr where
  | mk (k d : Int) (tv : Value) (ts : List Str) (lo hi : Int) (kv : Value) (ks : List Tr)
def Tr.k : Tr → Int | .mk k _ _ _ _ _ _ _ => k
def Tr.d : Tr → Int | .mk _ d _ _ _ _ _ _ => d
def Tr.tv : Tr → Value | .mk _ _ tv _ _ _ _ _ => tv
def Tr.ts : Tr → List Str | .mk _ _ _ ts _ _ _ _ => ts
def Tr.lo : Tr → Int | .mk _ _ _ _ lo _ _ _ => lo
def Tr.hi : Tr → Int | .mk _ _ _ _ _ hi _ _ => hi
def Tr.kv : Tr → Value | .mk _ _ _ _ _ _ kv _ => kv
def Tr.ks : Tr → List Tr | .mk _ _ _ _ _ _ _ ks => ks
def Tr.cells (t : Tr) : List Value := [.int .i64 t.k, .int .i64 t.d, t.tv, .int .i64 t.lo, .int .i64 t.hi, t.kv]
def tvs (l : List Tr) : List Value := l.flatMap Tr.cells
theorem tvs_get : ∀ (l : List Tr) (i c : Nat) (hi : i < l.length), c < 6 → (tvs l)[i * 6 + c]? = (l[i].cells)[c]?
  | a :: l, 0, c, _, hc => by
    simp only [tvs, List.flatMap_cons, List.getElem_cons_zero, Nat.zero_mul, Nat.zero_add]
    rw [List.getElem?_append_left (by simpa [Tr.cells] using hc)]
  | a :: l, i + 1, c, hi, hc => by
    have ih := tvs_get l i c (by simpa using hi) hc
    simp only [tvs, List.flatMap_cons, List.getElem_cons_succ]
    rw [List.getElem?_append_right (by simp [Tr.cells]; omega)]
    simp only [Tr.cells, List.length_cons, List.length_nil] at *
    rw [show (i + 1) * 6 + c - (0 + 1 + 1 + 1 + 1 + 1 + 1) = i * 6 + c by omega]
    exact ih
/-- It reads so, all the way down. -/
inductive Tr.Ok (w : World) : Tr → Prop
  | mk {t : Tr} (rt : Rds w t.tv (sv t.ts)) (rk : RdsK 6 w t.kv t.ks.length (tvs t.ks)) (h : ∀ c ∈ t.ks, Tr.Ok w c) : Tr.Ok w t
theorem Tr.Ok.rt {w : World} {t : Tr} (h : t.Ok w) : Rds w t.tv (sv t.ts) := by cases h; assumption
theorem Tr.Ok.rk {w : World} {t : Tr} (h : t.Ok w) : RdsK 6 w t.kv t.ks.length (tvs t.ks) := by cases h; assumption
theorem Tr.Ok.kid {w : World} {t : Tr} (h : t.Ok w) : ∀ c ∈ t.ks, c.Ok w := by cases h; assumption
theorem Tr.Ok.up {w w' : World} (hb : Below w.heap.size w w') {t : Tr} (h : t.Ok w) : t.Ok w' := by
  induction h with
  | mk rt rk _ ih => exact .mk (rt.below hb) (rk.below hb) ih
/-- Filters one behind the other. -/
structure RdsT (w : World) (v : Value) (l : List Tr) : Prop where
  r : RdsK 6 w v l.length (tvs l)
  ok : ∀ t ∈ l, t.Ok w
theorem RdsT.below {w w' : World} {v : Value} {l : List Tr} (h : RdsT w v l) (hb : Below w.heap.size w w') : RdsT w' v l := ⟨h.r.below hb, fun t ht => (h.ok t ht).up hb⟩
theorem RdsT.nil (w : World) : RdsT w (.slice none 0 0) [] := ⟨RdsK.nil 6 w, fun _ h => by cases h⟩
theorem RdsT.sl {w : World} {v : Value} {l : List Tr} (h : RdsT w v l) : ∃ ao n cap, v = .slice ao n cap := by obtain ⟨ao, cap, rfl, _⟩ := h.r; exact ⟨_, _, _, rfl⟩
theorem RdsT.len {w : World} {ao : Option Addr} {n cap : Nat} {l : List Tr} (h : RdsT w (.slice ao n cap) l) : n = l.length ∧ n ≤ cap ∧ cap ≤ maxLen := by
  obtain ⟨rfl, k0, k1, k2, k3, k4⟩ := h.r.cells (by decide)
  exact ⟨rfl, k1, k2⟩
theorem RdsT.at {w : World} {ao : Option Addr} {n cap : Nat} {l : List Tr} (h : RdsT w (.slice ao n cap) l) (h0 : 0 < l.length) :
    ∃ b off, ao = some ⟨b, off, none⟩ ∧ ∀ i (hi : i < l.length),
      w.cell? ⟨b, off + i * 6, none⟩ = some (.int .i64 l[i].k) ∧ w.cell? ⟨b, off + i * 6 + 1, none⟩ = some (.int .i64 l[i].d) ∧ w.cell? ⟨b, off + i * 6 + 2, none⟩ = some l[i].tv ∧
      w.cell? ⟨b, off + i * 6 + 3, none⟩ = some (.int .i64 l[i].lo) ∧ w.cell? ⟨b, off + i * 6 + 4, none⟩ = some (.int .i64 l[i].hi) ∧ w.cell? ⟨b, off + i * 6 + 5, none⟩ = some l[i].kv := by
  obtain ⟨rfl, k0, k1, k2, k3, k4⟩ := h.r.cells (by decide)
  obtain ⟨b, off, rfl, hc⟩ := k3 h0
  refine ⟨b, off, rfl, fun i hi => ?_⟩
  have g : ∀ c, c < 6 → (tvs l)[i * 6 + c]? = (l[i].cells)[c]? := fun c hc => tvs_get l i c hi hc
  refine ⟨?_, ?_, ?_, ?_, ?_, ?_⟩
  · exact hc (i * 6) _ (by have := g 0 (by omega); simpa [Tr.cells] using this)
  · rw [Nat.add_assoc]; exact hc (i * 6 + 1) _ (by have := g 1 (by omega); simpa [Tr.cells] using this)
  · rw [Nat.add_assoc]; exact hc (i * 6 + 2) _ (by have := g 2 (by omega); simpa [Tr.cells] using this)
  · rw [Nat.add_assoc]; exact hc (i * 6 + 3) _ (by have := g 3 (by omega); simpa [Tr.cells] using this)
  · rw [Nat.add_assoc]; exact hc (i * 6 + 4) _ (by have := g 4 (by omega); simpa [Tr.cells] using this)
  · rw [Nat.add_assoc]; exact hc (i * 6 + 5) _ (by have := g 5 (by omega); simpa [Tr.cells] using this)
end Go.Proofs.Ytpdlioidiobbbaa.Fi
