/- Filters as trees, and how they lie in memory. No walk stands here. -/
import Derived.Test.YtlfkhinmncbkcaaMem
namespace Go.Proofs.Ytlfkhinmncbkcaa
open Go.RowKit Go.Sort

/-- A filter as it lies in memory: its numbers, the values of its two slices, and what these read as. -/
inductive Tr where
  | mk (k d : Int) (tv : Value) (ts : List Str) (lo hi : Int) (kv : Value) (ks : List Tr)
def Tr.k : Tr → Int | .mk k _ _ _ _ _ _ _ => k
def Tr.d : Tr → Int | .mk _ d _ _ _ _ _ _ => d
def Tr.tv : Tr → Value | .mk _ _ tv _ _ _ _ _ => tv
def Tr.ts : Tr → List Str | .mk _ _ _ ts _ _ _ _ => ts
def Tr.lo : Tr → Int | .mk _ _ _ _ lo _ _ _ => lo
def Tr.hi : Tr → Int | .mk _ _ _ _ _ hi _ _ => hi
def Tr.kv : Tr → Value | .mk _ _ _ _ _ _ kv _ => kv
def Tr.ks : Tr → List Tr | .mk _ _ _ _ _ _ _ ks => ks
def Tr.cells (t : Tr) : List Value := [.int .i64 t.k, .int .i64 t.d, t.tv, .int .i64 t.lo, .int .i64 t.hi, t.kv]
def tvs (l : List Tr) : List Value := l.flatMap Tr.cells
theorem tvs_length (l : List Tr) : (tvs l).length = l.length * 6 := by
  induction l with
  | nil => rfl
  | cons a l ih => simp only [tvs, List.flatMap_cons, List.length_append] at *; rw [ih]; simp [Tr.cells]; omega
theorem tvs_get : ∀ (l : List Tr) (i c : Nat) (hi : i < l.length), c < 6 → (tvs l)[i * 6 + c]? = (l[i].cells)[c]?
  | a :: l, 0, c, _, hc => by
    simp only [tvs, List.flatMap_cons, List.getElem_cons_zero, Nat.zero_mul, Nat.zero_add]
    rw [List.getElem?_append_left (by simpa [Tr.cells] using hc)]
  | a :: l, i + 1, c, hi, hc => by
    have ih := tvs_get l i c (by simpa using hi) hc
    simp only [tvs, List.flatMap_cons, List.getElem_cons_succ]
    rw [List.getElem?_append_right (by simp [Tr.cells]; omega)]
    simp only [Tr.cells, List.length_cons, List.length_nil] at *
    rw [show (i + 1) * 6 + c - (0 + 1 + 1 + 1 + 1 + 1 + 1) = i * 6 + c by omega]
    exact ih
theorem tvs_take (l : List Tr) (n : Nat) : tvs (l.take n) = (tvs l).take (n * 6) := by
  induction l generalizing n with
  | nil => simp [tvs]
  | cons a l ih =>
    cases n with
    | zero => simp [tvs]
    | succ n =>
      simp only [tvs, List.take_succ_cons, List.flatMap_cons] at *
      have h6 : a.cells.length = 6 := rfl
      rw [ih, List.take_append, h6, List.take_of_length_le (l := a.cells) (by rw [h6]; omega), show (n + 1) * 6 - 6 = n * 6 by omega]
/-- It reads so, all the way down. -/
inductive Tr.Ok (w : World) : Tr → Prop
  | mk {t : Tr} (rt : Rds w t.tv (sv t.ts)) (rk : RdsK 6 w t.kv t.ks.length (tvs t.ks)) (h : ∀ c ∈ t.ks, Tr.Ok w c) : Tr.Ok w t
theorem Tr.Ok.rt {w : World} {t : Tr} (h : t.Ok w) : Rds w t.tv (sv t.ts) := by cases h; assumption
theorem Tr.Ok.rk {w : World} {t : Tr} (h : t.Ok w) : RdsK 6 w t.kv t.ks.length (tvs t.ks) := by cases h; assumption
theorem Tr.Ok.kid {w : World} {t : Tr} (h : t.Ok w) : ∀ c ∈ t.ks, c.Ok w := by cases h; assumption
theorem Tr.Ok.up {w w' : World} (hb : Below w.heap.size w w') {t : Tr} (h : t.Ok w) : t.Ok w' := by
  induction h with
  | mk rt rk _ ih => exact .mk (rt.below hb) (rk.below hb) ih
/-- Filters one behind the other. -/
structure RdsT (w : World) (v : Value) (l : List Tr) : Prop where
  r : RdsK 6 w v l.length (tvs l)
  ok : ∀ t ∈ l, t.Ok w
theorem RdsT.below {w w' : World} {v : Value} {l : List Tr} (h : RdsT w v l) (hb : Below w.heap.size w w') : RdsT w' v l := ⟨h.r.below hb, fun t ht => (h.ok t ht).up hb⟩
theorem RdsT.nil (w : World) : RdsT w (.slice none 0 0) [] := ⟨RdsK.nil 6 w, fun _ h => by cases h⟩
theorem RdsT.sl {w : World} {v : Value} {l : List Tr} (h : RdsT w v l) : ∃ ao n cap, v = .slice ao n cap := by obtain ⟨ao, cap, rfl, _⟩ := h.r; exact ⟨_, _, _, rfl⟩
theorem RdsT.len {w : World} {ao : Option Addr} {n cap : Nat} {l : List Tr} (h : RdsT w (.slice ao n cap) l) : n = l.length ∧ n ≤ cap ∧ cap ≤ maxLen := by
  obtain ⟨rfl, k0, k1, k2, k3, k4⟩ := h.r.cells (by decide)
  exact ⟨rfl, k1, k2⟩
theorem RdsT.at {w : World} {ao : Option Addr} {n cap : Nat} {l : List Tr} (h : RdsT w (.slice ao n cap) l) (h0 : 0 < l.length) :
    ∃ b off, ao = some ⟨b, off, none⟩ ∧ ∀ i (hi : i < l.length),
      w.cell? ⟨b, off + i * 6, none⟩ = some (.int .i64 l[i].k) ∧ w.cell? ⟨b, off + i * 6 + 1, none⟩ = some (.int .i64 l[i].d) ∧ w.cell? ⟨b, off + i * 6 + 2, none⟩ = some l[i].tv ∧
      w.cell? ⟨b, off + i * 6 + 3, none⟩ = some (.int .i64 l[i].lo) ∧ w.cell? ⟨b, off + i * 6 + 4, none⟩ = some (.int .i64 l[i].hi) ∧ w.cell? ⟨b, off + i * 6 + 5, none⟩ = some l[i].kv := by
  obtain ⟨rfl, k0, k1, k2, k3, k4⟩ := h.r.cells (by decide)
  obtain ⟨b, off, rfl, hc⟩ := k3 h0
  refine ⟨b, off, rfl, fun i hi => ?_⟩
  have g : ∀ c, c < 6 → (tvs l)[i * 6 + c]? = (l[i].cells)[c]? := fun c hc => tvs_get l i c hi hc
  refine ⟨?_, ?_, ?_, ?_, ?_, ?_⟩
  · exact hc (i * 6) _ (by have := g 0 (by omega); simpa [Tr.cells] using this)
  · rw [Nat.add_assoc]; exact hc (i * 6 + 1) _ (by have := g 1 (by omega); simpa [Tr.cells] using this)
  · rw [Nat.add_assoc]; exact hc (i * 6 + 2) _ (by have := g 2 (by omega); simpa [Tr.cells] using this)
  · rw [Nat.add_assoc]; exact hc (i * 6 + 3) _ (by have := g 3 (by omega); simpa [Tr.cells] using this)
  · rw [Nat.add_assoc]; exact hc (i * 6 + 4) _ (by have := g 4 (by omega); simpa [Tr.cells] using this)
  · rw [Nat.add_assoc]; exact hc (i * 6 + 5) _ (by have := g 5 (by omega); simpa [Tr.cells] using this)
theorem Tr.Ok.kids' {w : World} {t : Tr} (h : t.Ok w) : RdsT w t.kv t.ks := ⟨h.rk, h.kid⟩
/-- The Kids that count, and the slice that they lie in. -/
def Tr.kids (t : Tr) : List Tr := if t.k = 2 then t.ks.take 1 else if t.k = 3 ∨ t.k = 4 then t.ks else []
def cut1 : Value → Value
  | .slice a n c => .slice a (min 1 n) c
  | v => v
def Tr.kidv (t : Tr) : Value := if t.k = 2 then cut1 t.kv else if t.k = 3 ∨ t.k = 4 then t.kv else .slice none 0 0
theorem Tr.Ok.kids {w : World} {t : Tr} (h : t.Ok w) : RdsT w t.kidv t.kids := by
  unfold Tr.kidv Tr.kids
  split
  · have hk := h.kids'
    obtain ⟨ao, n, cap, he⟩ := hk.sl
    rw [he] at hk ⊢
    obtain ⟨hn, h1, h2⟩ := hk.len
    refine ⟨?_, fun c hc => h.kid c (List.mem_of_mem_take hc)⟩
    obtain ⟨ao', cap', e, k0, k1, k2, k3, k4⟩ := hk.r
    simp only [Value.slice.injEq] at e
    obtain ⟨rfl, -, rfl⟩ := e
    rw [List.length_take, tvs_take]
    show RdsK 6 w (.slice ao (min 1 n) cap) _ _
    rw [hn]
    refine ⟨ao, cap, rfl, ?_, by omega, k2, fun e => ?_, fun ad e j u hj => ?_⟩
    · rw [List.length_take, k0]; omega
    · obtain ⟨h3, h4⟩ := k3 e; exact ⟨by omega, h4⟩
    · rw [List.getElem?_take] at hj
      split at hj
      · exact k4 ad e j u hj
      · cases hj
  · split
    · exact h.kids'
    · exact RdsT.nil w
theorem kids_lt {t c : Tr} (h : c ∈ t.kids) : SizeOf.sizeOf c < SizeOf.sizeOf t := by
  have : c ∈ t.ks := by
    unfold Tr.kids at h
    split at h
    · exact List.mem_of_mem_take h
    · split at h
      · exact h
      · cases h
  have h1 := List.sizeOf_lt_of_mem this
  cases t with
  | mk k d tv ts lo hi kv ks => simp [Tr.ks] at h1; simp; omega
/-- How many parts. -/
def Tr.sz (t : Tr) : Nat := 1 + (t.kids.attach.map fun c => c.1.sz).sum
termination_by SizeOf.sizeOf t
decreasing_by exact kids_lt c.2
def szL (l : List Tr) : Nat := (l.map Tr.sz).sum
theorem Tr.sz_eq (t : Tr) : t.sz = 1 + szL t.kids := by
  rw [Tr.sz]; unfold szL
  rw [List.attach_map_val (f := Tr.sz)]
theorem szL_take (l : List Tr) (i : Nat) (hi : i < l.length) : szL (l.take (i + 1)) = szL (l.take i) + l[i].sz := by
  unfold szL
  rw [List.take_succ_eq_append_getElem hi, List.map_append, List.sum_append]
  simp
/-- Their depth. -/
def Tr.dp (t : Tr) : Nat := 1 + (t.kids.attach.map fun c => c.1.dp).foldr max 0
termination_by SizeOf.sizeOf t
decreasing_by exact kids_lt c.2
def dpL (l : List Tr) : Nat := (l.map Tr.dp).foldr max 0
theorem Tr.dp_eq (t : Tr) : t.dp = 1 + dpL t.kids := by
  rw [Tr.dp]; unfold dpL
  rw [List.attach_map_val (f := Tr.dp)]
theorem dpL_append (l m : List Tr) : dpL (l ++ m) = max (dpL l) (dpL m) := by
  unfold dpL
  induction l with
  | nil => simp
  | cons a l ih => simp only [List.cons_append, List.map_cons, List.foldr_cons] at *; rw [ih]; omega
theorem dpL_take (l : List Tr) (i : Nat) (hi : i < l.length) : dpL (l.take (i + 1)) = max (dpL (l.take i)) l[i].dp := by
  rw [List.take_succ_eq_append_getElem hi, dpL_append]
  simp [dpL]
theorem dp_le_sz (t : Tr) : t.dp ≤ t.sz := by
  suffices h : ∀ N (t : Tr), SizeOf.sizeOf t < N → t.dp ≤ t.sz from h _ t (Nat.lt_succ_self _)
  intro N
  induction N with
  | zero => intro t h; omega
  | succ N ih =>
    intro t ht
    rw [t.dp_eq, t.sz_eq]
    have : ∀ l : List Tr, (∀ c ∈ l, c.dp ≤ c.sz) → dpL l ≤ szL l := by
      intro l hl
      unfold dpL szL
      induction l with
      | nil => simp
      | cons a l ihl =>
        simp only [List.map_cons, List.foldr_cons, List.sum_cons]
        have h1 := hl a (by simp)
        have h2 := ihl fun c hc => hl c (by simp [hc])
        omega
    have := this t.kids fun c hc => ih c (by have := kids_lt hc; omega)
    omega
end Go.Proofs.Ytlfkhinmncbkcaa
