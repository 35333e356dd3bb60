/- What is said of rows of cells in memory, of texts, numbers, facts and rows of them. No walk stands here. -/
import Derived.Test.YtgdeongeonhlpaaProg
import Derived.Test.YtgdeongeonhlpaaFMath
import Derived.WalkKit
import Derived.Below
import Derived.WalkSpells
import Derived.OwnWalk
import Derived.Laws.OwnMore
import Derived.Lib.Strings
import Derived.Shelf.SlSorted.Search
namespace Go.Proofs.Ytgdeongeonhlpaa
open Go.RowKit Go.Sort

theorem hide {p : Prop} (h : p) : Hid p := h
theorem ret_int {k : IntKind} {a b : Int} (h : a = b) : Ending.returned (.int k a) = .returned (.int k b) := by rw [h]
theorem unhide {p : Prop} (h : Hid p) : p := h
theorem below_dN {B : Nat} {a w : World} (h : Below B a w) (n : Nat) : Below B a (w.drewN n) := ⟨h.os, h.tape, h.output, h.size, h.block⟩
theorem getD_at {l : List Str} {i : Nat} (hi : i < l.length) : l.getD i [] = l[i] := by simp [hi]

/-- A slice value reads as these cells: nil and nothing, or an address from which they lie. -/
def Rds (w : World) (v : Value) (xs : List Value) : Prop :=
  ∃ ao cap, v = .slice ao xs.length cap ∧ xs.length ≤ cap ∧ cap ≤ maxLen ∧ (ao = none → xs.length = 0 ∧ cap = 0) ∧
    ∀ ad, ao = some ad → ∀ j u, xs[j]? = some u → w.cell? (ad.add j) = some u
theorem Rds.nil (w : World) : Rds w (.slice none 0 0) [] := ⟨none, 0, rfl, Nat.le_refl _, Nat.zero_le _, fun _ => ⟨rfl, rfl⟩, fun _ h => by cases h⟩
/-- An owned row of cells of the type e. -/
def Own (w : World) (base e : Nat) (v : Value) (xs : List Value) : Prop := w.ownsRow base e 1 v xs.length xs
theorem Own.rds {w : World} {base e : Nat} {v : Value} {xs : List Value} (h : Own w base e v xs) : Rds w v xs := by
  have hc := h
  rcases h.2 with ⟨rfl, hn⟩ | ⟨g, cap, cur, rfl, hb, hg, hnc, hcm, hcs, ht⟩
  · have : xs = [] := List.eq_nil_of_length_eq_zero hn
    subst this
    exact Rds.nil w
  · refine ⟨some ⟨g, 0, none⟩, cap, rfl, hnc, hcm, (fun h => by cases h), ?_⟩
    rintro ad ⟨rfl⟩
    exact fun j u hj => World.ownsRow.cells hc rfl j u hj
theorem Rds.below {w w' : World} {v : Value} {xs : List Value} (h : Rds w v xs) (hb : Below w.heap.size w w') : Rds w' v xs := by
  obtain ⟨ao, cap, rfl, h1, h2, h3, h4⟩ := h
  refine ⟨ao, cap, rfl, h1, h2, h3, fun ad ha j u hj => ?_⟩
  have hc := h4 ad ha j u hj
  rw [hb.cell (World.block_lt_of_cell? _ _ hc)]
  exact hc
theorem Own.mono {w : World} {base base' e : Nat} {v : Value} {xs : List Value} (h : Own w base e v xs) (hb : base' ≤ base) : Own w base' e v xs := by
  refine ⟨h.1, ?_⟩
  rcases h.2 with h2 | ⟨g, cap, cur, h1, h2, h3⟩
  · exact .inl h2
  · exact .inr ⟨g, cap, cur, h1, by omega, h3⟩
theorem Own.below {w w' : World} {base e : Nat} {v : Value} {xs : List Value} (h : Own w base e v xs) (hb : Below w.heap.size w w') : Own w' base e v xs := by
  refine ⟨h.1, ?_⟩
  rcases h.2 with h2 | ⟨g, cap, cur, h1, h2, h3, h4⟩
  · exact .inl h2
  · refine .inr ⟨g, cap, cur, h1, h2, ?_, h4⟩
    rw [hb.block g (Array.getElem?_eq_some_iff.1 h3).1]
    exact h3
theorem Rds.cells {w : World} {ao : Option Addr} {n cap : Nat} {xs : List Value} (h : Rds w (.slice ao n cap) xs) :
    n = xs.length ∧ xs.length ≤ cap ∧ cap ≤ maxLen ∧ (0 < xs.length → ∃ b off, ao = some ⟨b, off, none⟩ ∧ ∀ i u, xs[i]? = some u → w.cell? ⟨b, off + i, none⟩ = some u) := by
  obtain ⟨ao', cap', he, h1, h2, h3, h4⟩ := h
  simp only [Value.slice.injEq] at he
  obtain ⟨rfl, rfl, rfl⟩ := he
  refine ⟨rfl, h1, h2, fun hp => ?_⟩
  cases ao with
  | none => have := (h3 rfl).1; omega
  | some ad =>
    obtain ⟨b, off, sp⟩ := ad
    have hc := h4 _ rfl
    have hs : sp = none := by
      have := World.cell?_spot (hc 0 _ (List.getElem?_eq_getElem hp))
      simpa [Addr.add] using this
    subst hs
    exact ⟨b, off, rfl, fun i u hi => by rw [← Addr.add_lit]; exact hc i _ hi⟩
theorem grown_trans {a b c : World} {r : Option Nat} (h : a.grownBy b r) (k : b.grownBy c r) : a.grownBy c r :=
  ⟨k.os.trans h.os, k.tape.trans h.tape, k.output.trans h.output, Nat.le_trans h.size k.size, fun i hi hr => (k.block i (Nat.lt_of_lt_of_le hi h.size) hr).trans (h.block i hi hr)⟩

/-- Texts as cells. -/
def sv (ts : List Str) : List Value := ts.map fun t => Value.string ⟨t.toArray⟩
theorem sv_length (ts : List Str) : (sv ts).length = ts.length := by simp [sv]
theorem sv_append (l m : List Str) : sv (l ++ m) = sv l ++ sv m := by simp [sv]
theorem sv_one (ts : List Str) : ∀ u ∈ sv ts, u.oneCell' = true := by
  intro u hu; simp [sv] at hu; obtain ⟨c, _, rfl⟩ := hu; rfl
theorem sv_get (ts : List Str) (i : Nat) (h : i < ts.length) : (sv ts)[i]? = some (.string ⟨(ts.getD i []).toArray⟩) := by simp [sv, h]
theorem sv_set (ts : List Str) (i : Nat) (t : Str) : sv (ts.set i t) = (sv ts).set i (.string ⟨t.toArray⟩) := by simp [sv, List.map_set]
theorem Try.info_str : (Try.prog.info? 9).map (fun i => (i.zero, i.size, i.bytes)) = some (some (.string ⟨#[]⟩), 1, 16) := by kernel_rfl
theorem str_toList (t : Str) : (⟨t.toArray⟩ : ByteArray).toList = t := by rw [Lib.toList_data]
theorem str_size (t : Str) : (⟨t.toArray⟩ : ByteArray).size = t.length := by simp [ByteArray.size]

/-- Numbers as cells. -/
def iv (l : List Int) : List Value := l.map fun z => Value.int .i64 z
theorem iv_length (l : List Int) : (iv l).length = l.length := by simp [iv]
theorem iv_get (l : List Int) (i : Nat) (h : i < l.length) : (iv l)[i]? = some (.int .i64 (l.getD i 0)) := by simp [iv, h]
theorem iv_one (l : List Int) : ∀ u ∈ iv l, u.oneCell' = true := by
  intro u hu; simp [iv] at hu; obtain ⟨c, _, rfl⟩ := hu; rfl

/-- A world further on: it has drawn, and blocks were laid behind. -/
def Grows (w w' : World) : Prop := ∃ q os, w' = grow (w.drewN q) os
theorem Grows.refl (w : World) : Grows w w := ⟨0, #[], by rw [grow_empty]; rfl⟩
theorem Grows.drewN (w : World) (n : Nat) : Grows w (w.drewN n) := ⟨n, #[], by rw [grow_empty]⟩
theorem Grows.alloc (w : World) (o : Obj) : Grows w (w.alloc o) := ⟨0, #[o], by rw [show w.drewN 0 = w from rfl, alloc_eq_grow]⟩
theorem Grows.trans {a b c : World} (h : Grows a b) (k : Grows b c) : Grows a c := by
  obtain ⟨q, os, rfl⟩ := h
  obtain ⟨q', os', rfl⟩ := k
  refine ⟨q + q', os ++ os', ?_⟩
  show grow (grow ((a.drewN q).drewN q') os) os' = _
  rw [grow_grow, World.drewN_drewN]
theorem Grows.below {w w' : World} (h : Grows w w') : Below w.heap.size w w' := by
  obtain ⟨q, os, rfl⟩ := h
  exact below_grown_sl _ w q os (Nat.le_refl _)

/-- A slice value reads as n elements of k cells each. -/
def RdsK (k : Nat) (w : World) (v : Value) (n : Nat) (xs : List Value) : Prop :=
  ∃ ao cap, v = .slice ao n cap ∧ xs.length = n * k ∧ n ≤ cap ∧ cap ≤ maxLen ∧ (ao = none → n = 0 ∧ cap = 0) ∧
    ∀ ad, ao = some ad → ∀ j u, xs[j]? = some u → w.cell? (ad.add j) = some u
theorem RdsK.nil (k : Nat) (w : World) : RdsK k w (.slice none 0 0) 0 [] := ⟨none, 0, rfl, by simp, Nat.le_refl _, Nat.zero_le _, fun _ => ⟨rfl, rfl⟩, fun _ h => by cases h⟩
theorem RdsK.below {k n : Nat} {w w' : World} {v : Value} {xs : List Value} (h : RdsK k w v n xs) (hb : Below w.heap.size w w') : RdsK k w' v n xs := by
  obtain ⟨ao, cap, rfl, h0, h1, h2, h3, h4⟩ := h
  refine ⟨ao, cap, rfl, h0, h1, h2, h3, fun ad ha j u hj => ?_⟩
  have hc := h4 ad ha j u hj
  rw [hb.cell (World.block_lt_of_cell? _ _ hc)]
  exact hc
theorem RdsK.of_own {k base e n : Nat} {w : World} {v : Value} {xs : List Value} (h : w.ownsRow base e k v n xs) : RdsK k w v n xs := by
  have hc := h
  rcases h.2 with ⟨rfl, rfl⟩ | ⟨g, cap, cur, rfl, hb, hg, hnc, hcm, hcs, ht⟩
  · have : xs = [] := List.eq_nil_of_length_eq_zero (by simpa using h.1)
    subst this
    exact RdsK.nil k w
  · refine ⟨some ⟨g, 0, none⟩, cap, rfl, h.1, hnc, hcm, (fun h => by cases h), ?_⟩
    rintro ad ⟨rfl⟩
    exact fun j u hj => World.ownsRow.cells hc rfl j u hj
theorem RdsK.cells {k : Nat} {w : World} {ao : Option Addr} {n m cap : Nat} {xs : List Value} (hk : 0 < k) (h : RdsK k w (.slice ao n cap) m xs) :
    n = m ∧ xs.length = m * k ∧ m ≤ cap ∧ cap ≤ maxLen ∧ (0 < m → ∃ b off, ao = some ⟨b, off, none⟩ ∧ ∀ i u, xs[i]? = some u → w.cell? ⟨b, off + i, none⟩ = some u) ∧ (ao = none → m = 0 ∧ cap = 0) := by
  obtain ⟨ao', cap', he, h0, h1, h2, h3, h4⟩ := h
  simp only [Value.slice.injEq] at he
  obtain ⟨rfl, rfl, rfl⟩ := he
  refine ⟨rfl, h0, h1, h2, fun hp => ?_, h3⟩
  cases ao with
  | none => have := (h3 rfl).1; omega
  | some ad =>
    obtain ⟨b, off, sp⟩ := ad
    have hc := h4 _ rfl
    have hl : 0 < xs.length := by rw [h0]; exact Nat.mul_pos hp hk
    have hs : sp = none := by
      have := World.cell?_spot (hc 0 _ (List.getElem?_eq_getElem hl))
      simpa [Addr.add] using this
    subst hs
    exact ⟨b, off, rfl, fun i u hi => by rw [← Addr.add_lit]; exact hc i _ hi⟩

/-- A fact as it lies in memory: its time, the values of its two slices, and what these read as. -/
structure Fc where
  t : Int
  dv : Value
  mv : Value
  ds : List Str
  ms : List Int
def Fc.ft (f : Fc) : Ft := ⟨f.t, f.ds, f.ms⟩
def Fc.cells (f : Fc) : List Value := [.int .i64 f.t, f.dv, f.mv]
def Fc.val (f : Fc) : Value := .agg #[.int .i64 f.t, f.dv, f.mv]
/-- It reads so, and can be copied. -/
structure Fc.Ok (w : World) (f : Fc) : Prop where
  rd : Rds w f.dv (sv f.ds)
  rm : Rds w f.mv (iv f.ms)
  bd : f.ds.length * 16 ≤ 160842843834660
  bm : f.ms.length * 8 ≤ 160842843834660
theorem Fc.Ok.below {w w' : World} {f : Fc} (h : f.Ok w) (hb : Below w.heap.size w w') : f.Ok w' := ⟨h.rd.below hb, h.rm.below hb, h.bd, h.bm⟩
/-- A fact with how often. -/
structure En where
  f : Fc
  n : Nat
def En.row (e : En) : Row := (e.f.ft, e.n)
def En.cells (e : En) : List Value := [.int .i64 e.f.t, e.f.dv, e.f.mv, .int .u64 e.n]
structure En.Ok (w : World) (e : En) : Prop where
  f : e.f.Ok w
  n : e.n < two64
theorem En.Ok.below {w w' : World} {e : En} (h : e.Ok w) (hb : Below w.heap.size w w') : e.Ok w' := ⟨h.f.below hb, h.n⟩
theorem slice_one {w : World} {v : Value} {xs : List Value} (h : Rds w v xs) : v.oneCell' = true := by obtain ⟨ao, cap, rfl, _⟩ := h; rfl
theorem En.Ok.one {w : World} {e : En} (h : e.Ok w) : ∀ v ∈ e.cells, v.oneCell' = true := by
  intro v hv
  simp only [En.cells, List.mem_cons, List.not_mem_nil, or_false] at hv
  rcases hv with rfl | rfl | rfl | rfl
  · rfl
  · exact slice_one h.f.rd
  · exact slice_one h.f.rm
  · rfl
theorem Fc.Ok.one {w : World} {f : Fc} (h : f.Ok w) : ∀ v ∈ f.cells, v.oneCell' = true := by
  intro v hv
  simp only [Fc.cells, List.mem_cons, List.not_mem_nil, or_false] at hv
  rcases hv with rfl | rfl | rfl
  · rfl
  · exact slice_one h.rd
  · exact slice_one h.rm
/-- Their cells, one behind the other. -/
def ev (l : List En) : List Value := l.flatMap En.cells
def fv (l : List Fc) : List Value := l.flatMap Fc.cells
theorem ev_length (l : List En) : (ev l).length = l.length * 4 := by
  induction l with
  | nil => rfl
  | cons a l ih => simp only [ev, List.flatMap_cons, List.length_append] at *; rw [ih]; simp [En.cells]; omega
theorem fv_length (l : List Fc) : (fv l).length = l.length * 3 := by
  induction l with
  | nil => rfl
  | cons a l ih => simp only [fv, List.flatMap_cons, List.length_append] at *; rw [ih]; simp [Fc.cells]; omega
theorem ev_app (l m : List En) : ev (l ++ m) = ev l ++ ev m := by simp [ev]
theorem ev_get : ∀ (l : List En) (i c : Nat) (hi : i < l.length), c < 4 → (ev l)[i * 4 + c]? = (l[i].cells)[c]?
  | a :: l, 0, c, _, hc => by
    simp only [ev, List.flatMap_cons, List.getElem_cons_zero, Nat.zero_mul, Nat.zero_add]
    rw [List.getElem?_append_left (by simpa [En.cells] using hc)]
  | a :: l, i + 1, c, hi, hc => by
    have ih := ev_get l i c (by simpa using hi) hc
    simp only [ev, List.flatMap_cons, List.getElem_cons_succ]
    rw [List.getElem?_append_right (by simp [En.cells]; omega)]
    simp only [En.cells, List.length_cons, List.length_nil] at *
    rw [show (i + 1) * 4 + c - (0 + 1 + 1 + 1 + 1) = i * 4 + c by omega]
    exact ih
theorem fv_get : ∀ (l : List Fc) (i c : Nat) (hi : i < l.length), c < 3 → (fv l)[i * 3 + c]? = (l[i].cells)[c]?
  | a :: l, 0, c, _, hc => by
    simp only [fv, List.flatMap_cons, List.getElem_cons_zero, Nat.zero_mul, Nat.zero_add]
    rw [List.getElem?_append_left (by simpa [Fc.cells] using hc)]
  | a :: l, i + 1, c, hi, hc => by
    have ih := fv_get l i c (by simpa using hi) hc
    simp only [fv, List.flatMap_cons, List.getElem_cons_succ]
    rw [List.getElem?_append_right (by simp [Fc.cells]; omega)]
    simp only [Fc.cells, List.length_cons, List.length_nil] at *
    rw [show (i + 1) * 3 + c - (0 + 1 + 1 + 1) = i * 3 + c by omega]
    exact ih
theorem ev_one {w : World} {l : List En} (h : ∀ e ∈ l, e.Ok w) : ∀ v ∈ ev l, v.oneCell' = true := by
  intro v hv
  simp only [ev, List.mem_flatMap] at hv
  obtain ⟨e, he, hv⟩ := hv
  exact (h e he).one v hv
/-- A slice of rows, of facts. -/
structure RdsM (w : World) (v : Value) (l : List En) : Prop where
  r : RdsK 4 w v l.length (ev l)
  ok : ∀ e ∈ l, e.Ok w
structure RdsF (w : World) (v : Value) (l : List Fc) : Prop where
  r : RdsK 3 w v l.length (fv l)
  ok : ∀ e ∈ l, e.Ok w
theorem RdsM.below {w w' : World} {v : Value} {l : List En} (h : RdsM w v l) (hb : Below w.heap.size w w') : RdsM w' v l := ⟨h.r.below hb, fun e he => (h.ok e he).below hb⟩
theorem RdsF.below {w w' : World} {v : Value} {l : List Fc} (h : RdsF w v l) (hb : Below w.heap.size w w') : RdsF w' v l := ⟨h.r.below hb, fun e he => (h.ok e he).below hb⟩
theorem RdsM.nil (w : World) : RdsM w (.slice none 0 0) [] := ⟨RdsK.nil 4 w, fun _ h => by cases h⟩
def rows (l : List En) : List Row := l.map En.row
end Go.Proofs.Ytgdeongeonhlpaa
