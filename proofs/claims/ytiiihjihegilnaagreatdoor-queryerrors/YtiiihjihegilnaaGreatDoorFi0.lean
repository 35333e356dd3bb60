/- What the texts of filter hold, over this program's numbers. -/
import Derived.Test.YtiiihjihegilnaaGreatDoorProg
import Derived.Test.YtiiihjihegilnaaGreatDoorChecked
import Derived.WalkKit
import Derived.Below
import Derived.WalkSpells
import Derived.OwnWalk
import Derived.Laws.OwnMore
import Derived.Lib.Strings
import Derived.Shelf.SlSorted.Search
import Derived.Deep.LoopGhost
import Derived.BigQuiet
import Derived.Shelf.SlSortCmp.QuietGrown
import Derived.Deep.Cut
import Derived.OpenShut
import Derived.SliceStrings
import Derived.SizedLaws
namespace Go.Proofs.YtiiihjihegilnaaGreatDoor.Fi
open Go.RowKit Go.Sort Go.ChangeShapes Go.WideShapes

abbrev Str := List UInt8
theorem hide {p : Prop} (h : p) : Hid p := h
theorem ret_int {k : IntKind} {a b : Int} (h : a = b) : Ending.returned (.int k a) = .returned (.int k b) := by rw [h]
theorem getD_at {l : List Str} {i : Nat} (hi : i < l.length) : l.getD i [] = l[i] := by simp [hi]

/-- A slice value reads as these cells: nil and nothing, or an address from which they lie. -/
def Rds (w : World) (v : Value) (xs : List Value) : Prop :=
  ∃ ao cap, v = .slice ao xs.length cap ∧ xs.length ≤ cap ∧ cap ≤ maxLen ∧ (ao = none → xs.length = 0 ∧ cap = 0) ∧
    ∀ ad, ao = some ad → ∀ j u, xs[j]? = some u → w.cell? (ad.add j) = some u
theorem Rds.nil (w : World) : Rds w (.slice none 0 0) [] := ⟨none, 0, rfl, Nat.le_refl _, Nat.zero_le _, fun _ => ⟨rfl, rfl⟩, fun _ h => by cases h⟩
/-- An owned row of cells of the type e. -/
def Own (w : World) (base e : Nat) (v : Value) (xs : List Value) : Prop := w.ownsRow base e 1 v xs.length xs
theorem Rds.below {w w' : World} {v : Value} {xs : List Value} (h : Rds w v xs) (hb : Below w.heap.size w w') : Rds w' v xs := by
  obtain ⟨ao, cap, rfl, h1, h2, h3, h4⟩ := h
  refine ⟨ao, cap, rfl, h1, h2, h3, fun ad ha j u hj => ?_⟩
  have hc := h4 ad ha j u hj
  rw [hb.cell (World.block_lt_of_cell? _ _ hc)]
  exact hc
theorem Own.mono {w : World} {base base' e : Nat} {v : Value} {xs : List Value} (h : Own w base e v xs) (hb : base' ≤ base) : Own w base' e v xs := by
  refine ⟨h.1, ?_⟩
  rcases h.2 with h2 | ⟨g, cap, cur, h1, h2, h3⟩
  · exact .inl h2
  · exact .inr ⟨g, cap, cur, h1, by omega, h3⟩
theorem Own.below {w w' : World} {base e : Nat} {v : Value} {xs : List Value} (h : Own w base e v xs) (hb : Below w.heap.size w w') : Own w' base e v xs := by
  refine ⟨h.1, ?_⟩
  rcases h.2 with h2 | ⟨g, cap, cur, h1, h2, h3, h4⟩
  · exact .inl h2
  · refine .inr ⟨g, cap, cur, h1, h2, ?_, h4⟩
    rw [hb.block g (Array.getElem?_eq_some_iff.1 h3).1]
    exact h3
theorem Rds.cells {w : World} {ao : Option Addr} {n cap : Nat} {xs : List Value} (h : Rds w (.slice ao n cap) xs) :
    n = xs.length ∧ xs.length ≤ cap ∧ cap ≤ maxLen ∧ (0 < xs.length → ∃ b off, ao = some ⟨b, off, none⟩ ∧ ∀ i u, xs[i]? = some u → w.cell? ⟨b, off + i, none⟩ = some u) := by
  obtain ⟨ao', cap', he, h1, h2, h3, h4⟩ := h
  simp only [Value.slice.injEq] at he
  obtain ⟨rfl, rfl, rfl⟩ := he
  refine ⟨rfl, h1, h2, fun hp => ?_⟩
  cases ao with
  | none => have := (h3 rfl).1; omega
  | some ad =>
    obtain ⟨b, off, sp⟩ := ad
    have hc := h4 _ rfl
    have hs : sp = none := by
      have := World.cell?_spot (hc 0 _ (List.getElem?_eq_getElem hp))
      simpa [Addr.add] using this
    subst hs
    exact ⟨b, off, rfl, fun i u hi => by rw [← Addr.add_lit]; exact hc i _ hi⟩
/-- Texts as cells. -/
def sv (ts : List Str) : List Value := ts.map fun t => Value.string ⟨t.toArray⟩
theorem sv_length (ts : List Str) : (sv ts).length = ts.length := by simp [sv]
theorem sv_get (ts : List Str) (i : Nat) (h : i < ts.length) : (sv ts)[i]? = some (.string ⟨(ts.getD i []).toArray⟩) := by simp [sv, h]
theorem str_size (t : Str) : (⟨t.toArray⟩ : ByteArray).size = t.length := by simp [ByteArray.size]

/-- Numbers as cells. -/
def iv (l : List Int) : List Value := l.map fun z => Value.int .i64 z
theorem iv_length (l : List Int) : (iv l).length = l.length := by simp [iv]
theorem iv_get (l : List Int) (i : Nat) (h : i < l.length) : (iv l)[i]? = some (.int .i64 (l.getD i 0)) := by simp [iv, h]
/-- A world further on: it has drawn, and blocks were laid behind. -/
def Grows (w w' : World) : Prop := ∃ q os, w' = grow (w.drewN q) os
theorem Grows.refl (w : World) : Grows w w := ⟨0, #[], by rw [grow_empty]; rfl⟩
theorem Grows.drewN (w : World) (n : Nat) : Grows w (w.drewN n) := ⟨n, #[], by rw [grow_empty]⟩
theorem Grows.alloc (w : World) (o : Obj) : Grows w (w.alloc o) := ⟨0, #[o], by rw [show w.drewN 0 = w from rfl, alloc_eq_grow]⟩
theorem Grows.trans {a b c : World} (h : Grows a b) (k : Grows b c) : Grows a c := by
  obtain ⟨q, os, rfl⟩ := h
  obtain ⟨q', os', rfl⟩ := k
  refine ⟨q + q', os ++ os', ?_⟩
  show grow (grow ((a.drewN q).drewN q') os) os' = _
  rw [grow_grow, World.drewN_drewN]
theorem Grows.below {w w' : World} (h : Grows w w') : Below w.heap.size w w' := by
  obtain ⟨q, os, rfl⟩ := h
  exact below_grown_sl _ w q os (Nat.le_refl _)

/-- A slice value reads as n elements of k cells each. -/
def RdsK (k : Nat) (w : World) (v : Value) (n : Nat) (xs : List Value) : Prop :=
  ∃ ao cap, v = .slice ao n cap ∧ xs.length = n * k ∧ n ≤ cap ∧ cap ≤ maxLen ∧ (ao = none → n = 0 ∧ cap = 0) ∧
    ∀ ad, ao = some ad → ∀ j u, xs[j]? = some u → w.cell? (ad.add j) = some u
theorem RdsK.nil (k : Nat) (w : World) : RdsK k w (.slice none 0 0) 0 [] := ⟨none, 0, rfl, by simp, Nat.le_refl _, Nat.zero_le _, fun _ => ⟨rfl, rfl⟩, fun _ h => by cases h⟩
theorem RdsK.below {k n : Nat} {w w' : World} {v : Value} {xs : List Value} (h : RdsK k w v n xs) (hb : Below w.heap.size w w') : RdsK k w' v n xs := by
  obtain ⟨ao, cap, rfl, h0, h1, h2, h3, h4⟩ := h
  refine ⟨ao, cap, rfl, h0, h1, h2, h3, fun ad ha j u hj => ?_⟩
  have hc := h4 ad ha j u hj
  rw [hb.cell (World.block_lt_of_cell? _ _ hc)]
  exact hc
theorem RdsK.cells {k : Nat} {w : World} {ao : Option Addr} {n m cap : Nat} {xs : List Value} (hk : 0 < k) (h : RdsK k w (.slice ao n cap) m xs) :
    n = m ∧ xs.length = m * k ∧ m ≤ cap ∧ cap ≤ maxLen ∧ (0 < m → ∃ b off, ao = some ⟨b, off, none⟩ ∧ ∀ i u, xs[i]? = some u → w.cell? ⟨b, off + i, none⟩ = some u) ∧ (ao = none → m = 0 ∧ cap = 0) := by
  obtain ⟨ao', cap', he, h0, h1, h2, h3, h4⟩ := h
  simp only [Value.slice.injEq] at he
  obtain ⟨rfl, rfl, rfl⟩ := he
  refine ⟨rfl, h0, h1, h2, fun hp => ?_, h3⟩
  cases ao with
  | none => have := (h3 rfl).1; omega
  | some ad =>
    obtain ⟨b, off, sp⟩ := ad
    have hc := h4 _ rfl
    have hl : 0 < xs.length := by rw [h0]; exact Nat.mul_pos hp hk
    have hs : sp = none := by
      have := World.cell?_spot (hc 0 _ (List.getElem?_eq_getElem hl))
      simpa [Addr.add] using this
    subst hs
    exact ⟨b, off, rfl, fun i u hi => by rw [← Addr.add_lit]; exact hc i _ hi⟩

theorem Rds.sl {w : World} {v : Value} {xs : List Value} (h : Rds w v xs) : ∃ a n c, v = .slice a n c := by obtain ⟨ao, cap, rfl, _⟩ := h; exact ⟨_, _, _, rfl⟩
/-- A filter as it lies in memory: its numbers, the values of its two slices, and what these read as. -/
inductive Tr where
  | mk (k d : Int) (tv : Value) (ts : List Str) (lo hi : Int) (kv : Value) (ks : List Tr)
def Tr.k : Tr → Int | .mk k _ _ _ _ _ _ _ => k
def Tr.d : Tr → Int | .mk _ d _ _ _ _ _ _ => d
def Tr.tv : Tr → Value | .mk _ _ tv _ _ _ _ _ => tv
def Tr.ts : Tr → List Str | .mk _ _ _ ts _ _ _ _ => ts
def Tr.lo : Tr → Int | .mk _ _ _ _ lo _ _ _ => lo
def Tr.hi : Tr → Int | .mk _ _ _ _ _ hi _ _ => hi
def Tr.kv : Tr → Value | .mk _ _ _ _ _ _ kv _ => kv
def Tr.ks : Tr → List Tr | .mk _ _ _ _ _ _ _ ks => ks
def Tr.cells (t : Tr) : List Value := [.int .i64 t.k, .int .i64 t.d, t.tv, .int .i64 t.lo, .int .i64 t.hi, t.kv]
def tvs (l : List Tr) : List Value := l.flatMap Tr.cells
theorem tvs_length (l : List Tr) : (tvs l).length = l.length * 6 := by
  induction l with
  | nil => rfl
  | cons a l ih => simp only [tvs, List.flatMap_cons, List.length_append] at *; rw [ih]; simp [Tr.cells]; omega
theorem tvs_get : ∀ (l : List Tr) (i c : Nat) (hi : i < l.length), c < 6 → (tvs l)[i * 6 + c]? = (l[i].cells)[c]?
  | a :: l, 0, c, _, hc => by
    simp only [tvs, List.flatMap_cons, List.getElem_cons_zero, Nat.zero_mul, Nat.zero_add]
    rw [List.getElem?_append_left (by simpa [Tr.cells] using hc)]
  | a :: l, i + 1, c, hi, hc => by
    have ih := tvs_get l i c (by simpa using hi) hc
    simp only [tvs, List.flatMap_cons, List.getElem_cons_succ]
    rw [List.getElem?_append_right (by simp [Tr.cells]; omega)]
    simp only [Tr.cells, List.length_cons, List.length_nil] at *
    rw [show (i + 1) * 6 + c - (0 + 1 + 1 + 1 + 1 + 1 + 1) = i * 6 + c by omega]
    exact ih
theorem tvs_take (l : List Tr) (n : Nat) : tvs (l.take n) = (tvs l).take (n * 6) := by
  induction l generalizing n with
  | nil => simp [tvs]
  | cons a l ih =>
    cases n with
    | zero => simp [tvs]
    | succ n =>
      simp only [tvs, List.take_succ_cons, List.flatMap_cons] at *
      have h6 : a.cells.length = 6 := rfl
      rw [ih, List.take_append, h6, List.take_of_length_le (l := a.cells) (by rw [h6]; omega), show (n + 1) * 6 - 6 = n * 6 by omega]
/-- It reads so, all the way down. -/
inductive Tr.Ok (w : World) : Tr → Prop
  | mk {t : Tr} (rt : Rds w t.tv (sv t.ts)) (rk : RdsK 6 w t.kv t.ks.length (tvs t.ks)) (h : ∀ c ∈ t.ks, Tr.Ok w c) : Tr.Ok w t
theorem Tr.Ok.rt {w : World} {t : Tr} (h : t.Ok w) : Rds w t.tv (sv t.ts) := by cases h; assumption
theorem Tr.Ok.rk {w : World} {t : Tr} (h : t.Ok w) : RdsK 6 w t.kv t.ks.length (tvs t.ks) := by cases h; assumption
theorem Tr.Ok.kid {w : World} {t : Tr} (h : t.Ok w) : ∀ c ∈ t.ks, c.Ok w := by cases h; assumption
theorem Tr.Ok.up {w w' : World} (hb : Below w.heap.size w w') {t : Tr} (h : t.Ok w) : t.Ok w' := by
  induction h with
  | mk rt rk _ ih => exact .mk (rt.below hb) (rk.below hb) ih
/-- Filters one behind the other. -/
structure RdsT (w : World) (v : Value) (l : List Tr) : Prop where
  r : RdsK 6 w v l.length (tvs l)
  ok : ∀ t ∈ l, t.Ok w
theorem RdsT.below {w w' : World} {v : Value} {l : List Tr} (h : RdsT w v l) (hb : Below w.heap.size w w') : RdsT w' v l := ⟨h.r.below hb, fun t ht => (h.ok t ht).up hb⟩
theorem RdsT.nil (w : World) : RdsT w (.slice none 0 0) [] := ⟨RdsK.nil 6 w, fun _ h => by cases h⟩
theorem RdsT.sl {w : World} {v : Value} {l : List Tr} (h : RdsT w v l) : ∃ ao n cap, v = .slice ao n cap := by obtain ⟨ao, cap, rfl, _⟩ := h.r; exact ⟨_, _, _, rfl⟩
theorem RdsT.len {w : World} {ao : Option Addr} {n cap : Nat} {l : List Tr} (h : RdsT w (.slice ao n cap) l) : n = l.length ∧ n ≤ cap ∧ cap ≤ maxLen := by
  obtain ⟨rfl, k0, k1, k2, k3, k4⟩ := h.r.cells (by decide)
  exact ⟨rfl, k1, k2⟩
theorem RdsT.at {w : World} {ao : Option Addr} {n cap : Nat} {l : List Tr} (h : RdsT w (.slice ao n cap) l) (h0 : 0 < l.length) :
    ∃ b off, ao = some ⟨b, off, none⟩ ∧ ∀ i (hi : i < l.length),
      w.cell? ⟨b, off + i * 6, none⟩ = some (.int .i64 l[i].k) ∧ w.cell? ⟨b, off + i * 6 + 1, none⟩ = some (.int .i64 l[i].d) ∧ w.cell? ⟨b, off + i * 6 + 2, none⟩ = some l[i].tv ∧
      w.cell? ⟨b, off + i * 6 + 3, none⟩ = some (.int .i64 l[i].lo) ∧ w.cell? ⟨b, off + i * 6 + 4, none⟩ = some (.int .i64 l[i].hi) ∧ w.cell? ⟨b, off + i * 6 + 5, none⟩ = some l[i].kv := by
  obtain ⟨rfl, k0, k1, k2, k3, k4⟩ := h.r.cells (by decide)
  obtain ⟨b, off, rfl, hc⟩ := k3 h0
  refine ⟨b, off, rfl, fun i hi => ?_⟩
  have g : ∀ c, c < 6 → (tvs l)[i * 6 + c]? = (l[i].cells)[c]? := fun c hc => tvs_get l i c hi hc
  refine ⟨?_, ?_, ?_, ?_, ?_, ?_⟩
  · exact hc (i * 6) _ (by have := g 0 (by omega); simpa [Tr.cells] using this)
  · rw [Nat.add_assoc]; exact hc (i * 6 + 1) _ (by have := g 1 (by omega); simpa [Tr.cells] using this)
  · rw [Nat.add_assoc]; exact hc (i * 6 + 2) _ (by have := g 2 (by omega); simpa [Tr.cells] using this)
  · rw [Nat.add_assoc]; exact hc (i * 6 + 3) _ (by have := g 3 (by omega); simpa [Tr.cells] using this)
  · rw [Nat.add_assoc]; exact hc (i * 6 + 4) _ (by have := g 4 (by omega); simpa [Tr.cells] using this)
  · rw [Nat.add_assoc]; exact hc (i * 6 + 5) _ (by have := g 5 (by omega); simpa [Tr.cells] using this)
theorem Tr.Ok.kids' {w : World} {t : Tr} (h : t.Ok w) : RdsT w t.kv t.ks := ⟨h.rk, h.kid⟩
/-- The Kids that count, and the slice that they lie in. -/
def Tr.kids (t : Tr) : List Tr := if t.k = 2 then t.ks.take 1 else if t.k = 3 ∨ t.k = 4 then t.ks else []
def cut1 : Value → Value
  | .slice a n c => .slice a (min 1 n) c
  | v => v
def Tr.kidv (t : Tr) : Value := if t.k = 2 then cut1 t.kv else if t.k = 3 ∨ t.k = 4 then t.kv else .slice none 0 0
theorem Tr.Ok.kids {w : World} {t : Tr} (h : t.Ok w) : RdsT w t.kidv t.kids := by
  unfold Tr.kidv Tr.kids
  split
  · have hk := h.kids'
    obtain ⟨ao, n, cap, he⟩ := hk.sl
    rw [he] at hk ⊢
    obtain ⟨hn, h1, h2⟩ := hk.len
    refine ⟨?_, fun c hc => h.kid c (List.mem_of_mem_take hc)⟩
    obtain ⟨ao', cap', e, k0, k1, k2, k3, k4⟩ := hk.r
    simp only [Value.slice.injEq] at e
    obtain ⟨rfl, -, rfl⟩ := e
    rw [List.length_take, tvs_take]
    show RdsK 6 w (.slice ao (min 1 n) cap) _ _
    rw [hn]
    refine ⟨ao, cap, rfl, ?_, by omega, k2, fun e => ?_, fun ad e j u hj => ?_⟩
    · rw [List.length_take, k0]; omega
    · obtain ⟨h3, h4⟩ := k3 e; exact ⟨by omega, h4⟩
    · rw [List.getElem?_take] at hj
      split at hj
      · exact k4 ad e j u hj
      · cases hj
  · split
    · exact h.kids'
    · exact RdsT.nil w
theorem kids_lt {t c : Tr} (h : c ∈ t.kids) : SizeOf.sizeOf c < SizeOf.sizeOf t := by
  have : c ∈ t.ks := by
    unfold Tr.kids at h
    split at h
    · exact List.mem_of_mem_take h
    · split at h
      · exact h
      · cases h
  have h1 := List.sizeOf_lt_of_mem this
  cases t with
  | mk k d tv ts lo hi kv ks => simp [Tr.ks] at h1; simp; omega
/-- How many parts. -/
def Tr.sz (t : Tr) : Nat := 1 + (t.kids.attach.map fun c => c.1.sz).sum
termination_by SizeOf.sizeOf t
decreasing_by exact kids_lt c.2
def szL (l : List Tr) : Nat := (l.map Tr.sz).sum
theorem Tr.sz_eq (t : Tr) : t.sz = 1 + szL t.kids := by
  rw [Tr.sz]; unfold szL
  rw [List.attach_map_val (f := Tr.sz)]
theorem szL_take (l : List Tr) (i : Nat) (hi : i < l.length) : szL (l.take (i + 1)) = szL (l.take i) + l[i].sz := by
  unfold szL
  rw [List.take_succ_eq_append_getElem hi, List.map_append, List.sum_append]
  simp
/-- Their depth. -/
def Tr.dp (t : Tr) : Nat := 1 + (t.kids.attach.map fun c => c.1.dp).foldr max 0
termination_by SizeOf.sizeOf t
decreasing_by exact kids_lt c.2
def dpL (l : List Tr) : Nat := (l.map Tr.dp).foldr max 0
theorem Tr.dp_eq (t : Tr) : t.dp = 1 + dpL t.kids := by
  rw [Tr.dp]; unfold dpL
  rw [List.attach_map_val (f := Tr.dp)]
theorem dpL_append (l m : List Tr) : dpL (l ++ m) = max (dpL l) (dpL m) := by
  unfold dpL
  induction l with
  | nil => simp
  | cons a l ih => simp only [List.cons_append, List.map_cons, List.foldr_cons] at *; rw [ih]; omega
theorem dpL_take (l : List Tr) (i : Nat) (hi : i < l.length) : dpL (l.take (i + 1)) = max (dpL (l.take i)) l[i].dp := by
  rw [List.take_succ_eq_append_getElem hi, dpL_append]
  simp [dpL]
theorem dp_le_sz (t : Tr) : t.dp ≤ t.sz := by
  suffices h : ∀ N (t : Tr), SizeOf.sizeOf t < N → t.dp ≤ t.sz from h _ t (Nat.lt_succ_self _)
  intro N
  induction N with
  | zero => intro t h; omega
  | succ N ih =>
    intro t ht
    rw [t.dp_eq, t.sz_eq]
    have : ∀ l : List Tr, (∀ c ∈ l, c.dp ≤ c.sz) → dpL l ≤ szL l := by
      intro l hl
      unfold dpL szL
      induction l with
      | nil => simp
      | cons a l ihl =>
        simp only [List.map_cons, List.foldr_cons, List.sum_cons]
        have h1 := hl a (by simp)
        have h2 := ihl fun c hc => hl c (by simp [hc])
        omega
    have := this t.kids fun c hc => ih c (by have := kids_lt hc; omega)
    omega
/-- The numbers fit, all the way down, and the slices are short enough to be walked. -/
theorem Tr.Ok.lens {w : World} {t : Tr} (h : t.Ok w) : ∃ at' nt ct ak nk ck, t.tv = .slice at' nt ct ∧ t.kv = .slice ak nk ck ∧ nk = t.ks.length ∧ nk ≤ ck ∧ ck ≤ maxLen ∧ (ak = none → nk = 0 ∧ ck = 0) := by
  obtain ⟨at', nt, ct, e1⟩ := h.rt.sl
  have hk := h.kids'
  obtain ⟨ak, nk, ck, e2⟩ := hk.sl
  rw [e2] at hk
  obtain ⟨h1, h2, h3⟩ := hk.len
  obtain ⟨-, -, -, -, -, k4⟩ := hk.r.cells (by decide)
  exact ⟨at', nt, ct, ak, nk, ck, e1, e2, h1, h2, h3, fun e => ⟨by rw [h1]; exact (k4 e).1, (k4 e).2⟩⟩

set_option maxHeartbeats 4000000 in
theorem kids_any (w : World) (t : Tr) (h : t.Ok w) :
    Calls Tryz.prog 60 #[.agg #[.int .i64 t.k, .int .i64 t.d, t.tv, .int .i64 t.lo, .int .i64 t.hi, t.kv]] w fun e w' => e = .returned t.kidv ∧ Grows w w' := by
  obtain ⟨at', nt, ct, ak, nk, ck, e1, e2, h1, h2, h3, h4⟩ := h.lens
  have hv : t.kidv = if t.k = 2 then cut1 (.slice ak nk ck) else if t.k = 3 ∨ t.k = 4 then .slice ak nk ck else .slice none 0 0 := by unfold Tr.kidv; rw [e2]
  rw [hv, e1, e2]
  unfold maxLen at h3
  have H4 : Hid (ak = none → nk = 0 ∧ ck = 0) := h4
  clear hv e1 e2 h h1 h4
  generalize t.k = k
  generalize t.d = d
  generalize t.lo = lo
  generalize t.hi = hi
  by_cases hk2 : k = 2
  · have hb2 : (k == 2) = true := by simp [hk2]
    subst hk2
    by_cases hn : nk = 0
    · subst hn
      have hcz : (0 : Int) ≤ (ck : Int) := by omega
      go_enter Tryz.func60, Tryz.ntmps60
      cases ak with
      | none =>
        obtain ⟨-, rfl⟩ := H4.out rfl
        go_wp2_with fail
        go_ret
        exact ⟨rfl, Grows.alloc _ _⟩
      | some ad =>
        go_wp2_with fail
        go_ret
        exact ⟨rfl, Grows.alloc _ _⟩
    · have hmin : min (1 : Int) (nk : Int) = 1 := by omega
      have hmn : min 1 nk = 1 := by omega
      have hcz : (1 : Int) ≤ (ck : Int) := by omega
      have hv2 : cut1 (.slice ak nk ck) = .slice ak 1 ck := by show Value.slice ak (min 1 nk) ck = _; rw [hmn]
      rw [if_pos rfl, hv2]
      have HM : Hid (min 1 nk = 1) := hmn
      have hn1 : (1 : Int) ≤ (nk : Int) := by omega
      have hn2 : ¬ (nk : Int) < 1 := by omega
      cases ak with
      | none => exact absurd (H4.out rfl).1 hn
      | some ad =>
        clear hmn hv2
        go_enter Tryz.func60, Tryz.ntmps60
        go_wp2_with fail
        go_ret
        exact ⟨rfl, Grows.alloc _ _⟩
  · have hb2 : (k == 2) = false := by simp [hk2]
    rw [if_neg hk2]
    by_cases hk3 : k = 3
    · have hb3 : (k == 3) = true := by simp [hk3]
      rw [if_pos (.inl hk3)]
      clear hk2 hk3
      go_enter Tryz.func60, Tryz.ntmps60
      go_wp2_with fail
      go_ret
      exact ⟨rfl, Grows.alloc _ _⟩
    · have hb3 : (k == 3) = false := by simp [hk3]
      by_cases hk4 : k = 4
      · have hb4 : (k == 4) = true := by simp [hk4]
        rw [if_pos (.inr hk4)]
        clear hk2 hk3 hk4
        go_enter Tryz.func60, Tryz.ntmps60
        go_wp2_with fail
        go_ret
        exact ⟨rfl, Grows.alloc _ _⟩
      · have hb4 : (k == 4) = false := by simp [hk4]
        rw [if_neg (fun h => h.elim hk3 hk4)]
        clear hk2 hk3 hk4
        go_enter Tryz.func60, Tryz.ntmps60
        go_wp2_with fail
        go_ret
        exact ⟨rfl, Grows.alloc _ _⟩
set_option maxHeartbeats 4000000 in
theorem count_any : ∀ (N : Nat) (l : List Tr), (∀ t ∈ l, SizeOf.sizeOf t < N) → ∀ (w : World) (v : Value) (L : Nat), RdsT w v l → L ≤ 1000 →
    Calls Tryz.prog 59 #[.int .i64 L, v] w fun e w' => e = .returned (.int .i64 ((min L (szL l) : Nat) : Int)) ∧ Grows w w' := by
  intro N
  induction N with
  | zero =>
    intro l hl w v L h hL
    have : l = [] := by
      cases l with
      | nil => rfl
      | cons t l => have := hl t (by simp); omega
    subst this
    obtain ⟨ao, n, cap, rfl⟩ := h.sl
    obtain ⟨hn, -, -⟩ := h.len
    simp only [List.length_nil] at hn
    subst hn
    go_enter Tryz.func59, Tryz.ntmps59
    go_wp2_with fail
    go_loopg [5, 10] 0 (fun kx v5 v10 wr => v5 = .int .i64 0 ∧ v10 = .int .i64 0 ∧ Hid (Grows w wr))
    case atStart => exact ⟨rfl, rfl, Grows.refl _⟩
    case round =>
      obtain ⟨rfl, rfl, HG⟩ := hrel
      go_wp2_with fail
      go_ret
      refine ⟨ret_int ?_, HG.out⟩
      simp [szL]
  | succ N ih =>
    intro l hl w v L h hL
    obtain ⟨ao, n, cap, rfl⟩ := h.sl
    obtain ⟨hn, hc1, hc2⟩ := h.len
    unfold maxLen at hc2
    have HN : Hid (n = l.length) := hn
    have HH : Hid (RdsT w (.slice ao n cap) l) := h
    have HI : Aside _ := ih
    have HL : Aside (∀ t ∈ l, SizeOf.sizeOf t < N + 1) := hl
    clear h hn ih hl
    go_enter Tryz.func59, Tryz.ntmps59
    go_wp2_with fail
    go_loopg [5, 10] n (fun kx v5 v10 wr => ∃ i c : Nat, v10 = .int .i64 i ∧ v5 = .int .i64 c ∧ i ≤ n ∧ n - i ≤ kx ∧ c ≤ L ∧ Hid (c = min L (szL (l.take i))) ∧ Hid (Grows w wr))
    case atStart => exact ⟨0, 0, rfl, rfl, by omega, Nat.le_refl _, by omega, (show (0 : Nat) = min L (szL (l.take 0)) by simp [szL]), Grows.refl _⟩
    case round =>
      obtain ⟨i, c, rfl, rfl, hi, hkx, hcL, HC, HG⟩ := hrel
      by_cases hlt : i < n
      · have hltz : (i : Int) < (n : Int) := by omega
        have hil : i < l.length := by have := HN.out; omega
        have hr := RdsT.below HH.out HG.out.below
        obtain ⟨b, off, rfl, hcell⟩ := hr.at (by omega)
        obtain ⟨q0, q1, q2, q3, q4, q5⟩ := hcell i hil
        have ok := hr.ok l[i] (List.getElem_mem hil)
        have hsz := HL.out l[i] (List.getElem_mem hil)
        have htk := szL_take l i hil
        generalize l[i] = x at *
        have HT : Hid _ := htk
        have HX : Hid (x.Ok wr ∧ SizeOf.sizeOf x < N + 1) := ⟨ok, hsz⟩
        obtain ⟨at', nt, ct, ak, nk, ck, e1, e2, -, -, -, -⟩ := ok.lens
        rw [e1] at q2
        rw [e2] at q5
        have HE : Hid (x.tv = .slice at' nt ct ∧ x.kv = .slice ak nk ck) := ⟨e1, e2⟩
        obtain ⟨W, hW⟩ : ∃ W, W = wr.alloc (.cells #[.int .i64 x.k, .int .i64 x.d, x.tv, .int .i64 x.lo, .int .i64 x.hi, x.kv] 29) := ⟨_, rfl⟩
        have gW : Grows wr W := by rw [hW]; exact Grows.alloc _ _
        have kK := kids_any W x (ok.up gW.below)
        rw [hW, e1, e2] at kK
        have HW : Hid _ := hW
        rw [e1, e2] at HW
        have HGW : Hid (Grows wr W) := gW
        clear ok hsz htk hcell hr e1 e2 hW gW
        by_cases hcl : L ≤ c
        · have hclz : (L : Int) ≤ (c : Int) := by omega
          clear kK
          go_wp2_with fail
          rw [← HW.out]
          go_ret
          refine ⟨?_, HG.out.trans HGW.out⟩
          have h1 := HC.out
          have h2 : szL (l.take i) ≤ szL l := by
            conv => rhs; rw [← List.take_append_drop i l]
            unfold szL; rw [List.map_append, List.sum_append]; omega
          have h3 : c = min L (szL l) := by omega
          exact ret_int (by rw [← h3])
        · have hclz : ¬ (L : Int) ≤ (c : Int) := by omega
          have hsub : (L : Int) - ((c : Int) + 1) = ((L - (c + 1) : Nat) : Int) := by omega
          obtain ⟨M, hM⟩ : ∃ M, M = L - (c + 1) := ⟨_, rfl⟩
          rw [← hM] at hsub
          have hM1 : M ≤ 1000 := by omega
          have HMM : Hid (M = L - (c + 1)) := hM
          clear hM
          go_wp2_with fail
          refine kK.mono ?_
          rintro e w5 ⟨rfl, g5⟩
          rw [← HW.out] at g5
          have hk5 := (HX.out.1.up (HGW.out.trans g5).below).kids
          have kC := HI.out x.kids (fun t ht => by have := kids_lt ht; have := HX.out.2; omega) w5 x.kidv M hk5 hM1
          obtain ⟨a5, n5, c5, e5⟩ := hk5.sl
          rw [e5] at kC ⊢
          obtain ⟨S, hS⟩ : ∃ S, S = min M (szL x.kids) := ⟨_, rfl⟩
          rw [← hS] at kC
          have hSM : S ≤ M := by omega
          have HS : Hid (S = min M (szL x.kids)) := hS
          have HG5 : Hid (Grows wr w5) := HGW.out.trans g5
          clear kK g5 hk5 e5 hS
          go_wp2_with fail
          refine kC.mono ?_
          rintro e w6 ⟨rfl, g6⟩
          obtain ⟨K, hK⟩ : ∃ K : Nat, K = c + 1 + S := ⟨_, rfl⟩
          have hcs : (c : Int) + 1 + (S : Int) = (K : Int) := by omega
          have hKL : K ≤ 1000 := by have := HMM.out; omega
          have HK : Hid (K = c + 1 + S) := hK
          clear hK
          clear kC
          go_wp2_with fail
          go_roundg (n - (i + 1))
          case measure => omega
          case rel =>
            have hm := HMM.out
            have hk := HK.out
            refine ⟨i + 1, K, by go_num, rfl, by omega, Nat.le_refl _, by omega, ?_, (HG.out.trans HG5.out).trans g6⟩
            show _ = _
            have h1 := HC.out
            have h2 := HS.out
            have h3 := HT.out
            rw [x.sz_eq] at h3
            rw [h3]
            omega
      · have hltz : ¬ (i : Int) < (n : Int) := by omega
        go_wp2_with fail
        go_ret
        have h1 := HC.out
        rw [List.take_of_length_le (by have := HN.out; omega)] at h1
        exact ⟨ret_int (by rw [← h1]), HG.out⟩
set_option maxHeartbeats 4000000 in
theorem deepest_any : ∀ (N : Nat) (l : List Tr), (∀ t ∈ l, SizeOf.sizeOf t < N) → ∀ (w : World) (v : Value), RdsT w v l → szL l ≤ 1000 →
    Calls Tryz.prog 48 #[v] w fun e w' => e = .returned (.int .i64 ((dpL l : Nat) : Int)) ∧ Grows w w' := by
  intro N
  induction N with
  | zero =>
    intro l hl w v h hs
    have : l = [] := by
      cases l with
      | nil => rfl
      | cons t l => have := hl t (by simp); omega
    subst this
    obtain ⟨ao, n, cap, rfl⟩ := h.sl
    obtain ⟨hn, -, -⟩ := h.len
    simp only [List.length_nil] at hn
    subst hn
    go_enter Tryz.func48, Tryz.ntmps48
    go_wp2_with fail
    go_loopg [3, 8] 0 (fun kx v5 v10 wr => v5 = .int .i64 0 ∧ v10 = .int .i64 0 ∧ Hid (Grows w wr))
    case atStart => exact ⟨rfl, rfl, Grows.refl _⟩
    case round =>
      obtain ⟨rfl, rfl, HG⟩ := hrel
      go_wp2_with fail
      go_ret
      exact ⟨ret_int (by simp [dpL]), HG.out⟩
  | succ N ih =>
    intro l hl w v h hs
    obtain ⟨ao, n, cap, rfl⟩ := h.sl
    obtain ⟨hn, hc1, hc2⟩ := h.len
    unfold maxLen at hc2
    have HN : Hid (n = l.length) := hn
    have HH : Hid (RdsT w (.slice ao n cap) l) := h
    have HI : Aside _ := ih
    have HL : Aside (∀ t ∈ l, SizeOf.sizeOf t < N + 1) := hl
    have HZ : Hid (szL l ≤ 1000) := hs
    clear h hn ih hl hs
    go_enter Tryz.func48, Tryz.ntmps48
    go_wp2_with fail
    go_loopg [3, 8] n (fun kx v5 v10 wr => ∃ i c : Nat, v10 = .int .i64 i ∧ v5 = .int .i64 c ∧ i ≤ n ∧ n - i ≤ kx ∧ c ≤ 1000 ∧ Hid (c = dpL (l.take i)) ∧ Hid (Grows w wr))
    case atStart => exact ⟨0, 0, rfl, rfl, by omega, Nat.le_refl _, by omega, (show (0 : Nat) = dpL (l.take 0) by simp [dpL]), Grows.refl _⟩
    case round =>
      obtain ⟨i, c, rfl, rfl, hi, hkx, hcL, HC, HG⟩ := hrel
      by_cases hlt : i < n
      · have hltz : (i : Int) < (n : Int) := by omega
        have hil : i < l.length := by have := HN.out; omega
        have hr := RdsT.below HH.out HG.out.below
        obtain ⟨b, off, rfl, hcell⟩ := hr.at (by omega)
        obtain ⟨q0, q1, q2, q3, q4, q5⟩ := hcell i hil
        have ok := hr.ok l[i] (List.getElem_mem hil)
        have hsz := HL.out l[i] (List.getElem_mem hil)
        have htk := dpL_take l i hil
        have hzz : l[i].sz ≤ szL l := by
          have h1 := szL_take l i hil
          have h2 : szL (l.take (i + 1)) ≤ szL l := by
            conv => rhs; rw [← List.take_append_drop (i + 1) l]
            unfold szL; rw [List.map_append, List.sum_append]; omega
          omega
        generalize l[i] = x at *
        have HT : Hid _ := htk
        have HX : Hid (x.Ok wr ∧ SizeOf.sizeOf x < N + 1 ∧ x.sz ≤ 1000) := ⟨ok, hsz, Nat.le_trans hzz HZ.out⟩
        obtain ⟨at', nt, ct, ak, nk, ck, e1, e2, -, -, -, -⟩ := ok.lens
        rw [e1] at q2
        rw [e2] at q5
        obtain ⟨W, hW⟩ : ∃ W, W = wr.alloc (.cells #[.int .i64 x.k, .int .i64 x.d, x.tv, .int .i64 x.lo, .int .i64 x.hi, x.kv] 29) := ⟨_, rfl⟩
        have gW : Grows wr W := by rw [hW]; exact Grows.alloc _ _
        have kK := kids_any W x (ok.up gW.below)
        rw [hW, e1, e2] at kK
        have HW : Hid _ := hW
        rw [e1, e2] at HW
        have HGW : Hid (Grows wr W) := gW
        clear ok hsz htk hcell hr e1 e2 hW gW hzz
        go_wp2_with fail
        refine kK.mono ?_
        rintro e w5 ⟨rfl, g5⟩
        rw [← HW.out] at g5
        have hk5 := (HX.out.1.up (HGW.out.trans g5).below).kids
        have hxs := x.sz_eq
        have kC := HI.out x.kids (fun t ht => by have := kids_lt ht; have := HX.out.2.1; omega) w5 x.kidv hk5 (by have := HX.out.2.2; omega)
        obtain ⟨a5, n5, c5, e5⟩ := hk5.sl
        rw [e5] at kC ⊢
        have hxd := x.dp_eq
        have hds := dp_le_sz x
        obtain ⟨S, hS⟩ : ∃ S, S = dpL x.kids := ⟨_, rfl⟩
        rw [← hS] at kC hxd
        have hS1 : S ≤ 1000 := by have := HX.out.2.2; omega
        have HS : Hid (x.dp = 1 + S) := hxd
        have HG5 : Hid (Grows wr w5) := HGW.out.trans g5
        obtain ⟨K, hK⟩ : ∃ K : Nat, K = max c (1 + S) := ⟨_, rfl⟩
        have hKz : max (c : Int) (1 + (S : Int)) = (K : Int) := by omega
        have hK1 : K ≤ 1000 := by have := HX.out.2.2; omega
        have HK : Hid (K = max c (1 + S)) := hK
        clear kK g5 hk5 e5 hS hxs hxd hds hK
        go_wp2_with fail
        refine kC.mono ?_
        rintro e w6 ⟨rfl, g6⟩
        clear kC
        go_wp2_with fail
        go_roundg (n - (i + 1))
        case measure => omega
        case rel =>
          refine ⟨i + 1, K, by go_num, by go_num, by omega, Nat.le_refl _, hK1, ?_, (HG.out.trans HG5.out).trans g6⟩
          show _ = _
          rw [HK.out, HT.out, HC.out, HS.out]
      · have hltz : ¬ (i : Int) < (n : Int) := by omega
        go_wp2_with fail
        go_ret
        have h1 := HC.out
        rw [List.take_of_length_le (by have := HN.out; omega)] at h1
        exact ⟨ret_int (by rw [← h1]), HG.out⟩
/-- One filter, as a row of one. -/
theorem one_tr (w : World) (t : Tr) (h : t.Ok w) (B : Nat) (hB : B = w.heap.size) : RdsT (w.alloc (.cells #[.int .i64 t.k, .int .i64 t.d, t.tv, .int .i64 t.lo, .int .i64 t.hi, t.kv] 29)) (.slice (some ⟨B, 0, none⟩) 1 1) [t] := by
  subst hB
  refine ⟨⟨some ⟨w.heap.size, 0, none⟩, 1, rfl, rfl, Nat.le_refl _, by decide, (fun h => by cases h), ?_⟩, fun c hc => ?_⟩
  · rintro ad ⟨rfl⟩ j u hj
    rw [Addr.add_lit, Nat.zero_add]
    have hjl : j < 6 := by
      have := (List.getElem?_eq_some_iff.1 hj).1
      simpa [tvs, Tr.cells] using this
    have : j = 0 ∨ j = 1 ∨ j = 2 ∨ j = 3 ∨ j = 4 ∨ j = 5 := by omega
    rcases this with rfl | rfl | rfl | rfl | rfl | rfl <;> simpa [tvs, Tr.cells] using hj
  · simp only [List.mem_singleton] at hc
    subst hc
    exact h.up ((Below.refl _ _).alloc (Nat.le_refl _) _)
theorem szL_one (t : Tr) : szL [t] = t.sz := by simp [szL]
theorem dpL_one (t : Tr) : dpL [t] = t.dp := by simp [dpL]

set_option maxHeartbeats 800000 in
theorem size_any (w : World) (t : Tr) (h : t.Ok w) :
    Calls Tryz.prog 47 #[.agg #[.int .i64 t.k, .int .i64 t.d, t.tv, .int .i64 t.lo, .int .i64 t.hi, t.kv]] w fun e w' => e = .returned (.int .i64 ((min 201 t.sz : Nat) : Int)) ∧ Grows w w' := by
  obtain ⟨at', nt, ct, ak, nk, ck, e1, e2, -, -, -, -⟩ := h.lens
  obtain ⟨W, hW⟩ : ∃ W, W = w.alloc (.cells #[.int .i64 t.k, .int .i64 t.d, t.tv, .int .i64 t.lo, .int .i64 t.hi, t.kv] 29) := ⟨_, rfl⟩
  have gW : Grows w W := by rw [hW]; exact Grows.alloc _ _
  have kC := count_any _ [t] (fun c hc => by simp only [List.mem_singleton] at hc; subst hc; exact Nat.lt_succ_self _) _ _ 201 (one_tr W t (h.up gW.below) (w.heap.size + 1) (by rw [hW]; simp)) (by omega)
  rw [szL_one] at kC
  obtain ⟨M, hM⟩ : ∃ M, M = min 201 t.sz := ⟨_, rfl⟩
  rw [← hM, show ((201 : Nat) : Int) = 201 from rfl] at kC
  have HG : Hid (Grows w (W.alloc (.cells #[.int .i64 t.k, .int .i64 t.d, t.tv, .int .i64 t.lo, .int .i64 t.hi, t.kv] 29))) := gW.trans (Grows.alloc _ _)
  rw [hW, e1, e2] at kC HG
  rw [e1, e2, ← hM]
  clear e1 e2 hW gW h hM
  go_enter Tryz.func47, Tryz.ntmps47
  go_wp2_with fail
  refine kC.mono ?_
  rintro e w5 ⟨rfl, g5⟩
  go_wp2_with fail
  go_ret
  exact ⟨rfl, HG.out.trans g5⟩
theorem within_any (w : World) (a n : Int) :
    Calls Tryz.prog 67 #[.int .i64 a, .int .i64 n] w fun e w' => e = .returned (.bool (decide (0 ≤ a ∧ a < n))) ∧ w' = w := by
  by_cases h0 : 0 ≤ a
  · have d0 : decide ((0 : Int) ≤ a) = true := decide_eq_true h0
    by_cases h1 : a < n
    · have d1 : decide (a < n) = true := decide_eq_true h1
      rw [decide_eq_true ⟨h0, h1⟩]
      go_enter Tryz.func67, Tryz.ntmps67
      go_wp2_with fail
      go_ret
      exact ⟨rfl, rfl⟩
    · have d1 : decide (a < n) = false := decide_eq_false h1
      rw [decide_eq_false fun h => h1 h.2]
      go_enter Tryz.func67, Tryz.ntmps67
      go_wp2_with fail
      go_ret
      exact ⟨rfl, rfl⟩
  · have d0 : decide ((0 : Int) ≤ a) = false := decide_eq_false h0
    rw [decide_eq_false fun h => h0 h.1]
    go_enter Tryz.func67, Tryz.ntmps67
    go_wp2_with fail
    go_ret
    exact ⟨rfl, rfl⟩
theorem long_any (w : World) (s : Str) :
    Calls Tryz.prog 69 #[.string ⟨s.toArray⟩] w fun e w' => e = .returned (.bool (decide (64 < s.length))) ∧ w' = w := by
  have hz : (⟨s.toArray⟩ : ByteArray).size = s.length := str_size s
  have hd : decide ((64 : Int) < (s.length : Int)) = decide (64 < s.length) := by
    by_cases h4 : 64 < s.length
    · rw [decide_eq_true h4, decide_eq_true (by omega)]
    · rw [decide_eq_false h4, decide_eq_false (by omega)]
  rw [← hd]
  clear hd
  go_enter Tryz.func69, Tryz.ntmps69
  go_wp2_with fail
  go_ret
  exact ⟨rfl, rfl⟩

end Go.Proofs.YtiiihjihegilnaaGreatDoor.Fi
