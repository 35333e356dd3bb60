/- A message with a list of segments, of dimensions, of sets. No walk stands here. -/
import Derived.Test.YtnkllgpibmofiaaOwQ
namespace Go.Proofs.Ytnkllgpibmofiaa
open Go.RowKit Go.Maps Go.Sort
set_option linter.unusedVariables false

def pat : Array Value → Nat → List Value → Array Value
  | M, _, [] => M
  | M, o, c :: cs => pat (M.setIfInBounds o c) (o + 1) cs
theorem pat_size : ∀ (cs : List Value) (M : Array Value) (o : Nat), (pat M o cs).size = M.size
  | [], _, _ => rfl
  | c :: cs, M, o => (pat_size cs _ _).trans (by simp)
theorem pat_other : ∀ (cs : List Value) (M : Array Value) (o i : Nat), (i < o ∨ o + cs.length ≤ i) → (pat M o cs)[i]? = M[i]?
  | [], _, _, _, _ => rfl
  | c :: cs, M, o, i, h => by
    have := pat_other cs (M.setIfInBounds o c) (o + 1) i (by simp only [List.length_cons] at h; omega)
    rw [pat, this, Array.getElem?_setIfInBounds, if_neg (by simp only [List.length_cons] at h; omega)]
theorem pat_sub : ∀ (cs : List Value) (M : Array Value) (o : Nat), o + cs.length ≤ M.size → sub (pat M o cs) o cs
  | [], _, _, _ => fun j v hj => by cases hj
  | c :: cs, M, o, h => fun j v hj => by
    rw [pat]
    cases j with
    | zero =>
      have := pat_other cs (M.setIfInBounds o c) (o + 1) (o + 0) (by omega)
      rw [this, Array.getElem?_setIfInBounds, if_pos (by omega), if_pos (by simp only [List.length_cons] at h; omega)]
      exact hj
    | succ j =>
      have := pat_sub cs (M.setIfInBounds o c) (o + 1) (by simp only [List.length_cons] at h; simp; omega) j v (by simpa using hj)
      rw [show o + (j + 1) = o + 1 + j by omega]
      exact this
theorem pat_all : ∀ (cs : List Value) (M : Array Value) (o : Nat), M.all (·.oneCell') = true → (∀ u ∈ cs, u.oneCell' = true) → (pat M o cs).all (·.oneCell') = true
  | [], _, _, h, _ => h
  | c :: cs, M, o, h, hc => pat_all cs _ _ (all_set h o (hc c (List.mem_cons_self ..))) fun u hu => hc u (List.mem_cons_of_mem _ hu)
theorem BxA.pat {g : Nat} {t : TypeId} : ∀ (cs : List Value) (o : Nat) {w : World} {M : Array Value}, BxA w g t M → BxA (w.setCells g o cs) g t (pat M o cs)
  | [], _, _, _, h => h
  | c :: cs, o, w, M, h => BxA.pat cs (o + 1) (h.set o c)
theorem sub_other {M : Array Value} {o : Nat} {cs : List Value} (h : sub M o cs) {M' : Array Value} (hk : ∀ i, o ≤ i → i < o + cs.length → M'[i]? = M[i]?) : sub M' o cs := fun j v hj => by
  have := (List.getElem?_eq_some_iff.1 hj).1
  rw [hk (o + j) (by omega) (by omega)]
  exact h j v hj
def fcd (t : Int) (d : Value) : List Value := [.int .i64 t, d, nl]
structure Po (M : Array Value) (d s g : Value) : Prop where
  sz : M.size = 41
  one : M.all (·.oneCell') = true
  ft : ∃ t, sub M 9 (fcd t d)
  qr : ∃ f t k dd lo hi gg gr ro, sub M 12 (qcsS f t k dd lo hi gg gr ro s)
  sg : M[39]? = some g
  gp : M[40]? = some nl
theorem Po.setId {M : Array Value} {d s g : Value} (h : Po M d s g) (x : Nat) : Po (M.setIfInBounds 3 (.int .u64 (x : Int))) d s g := by
  have hs : ∀ o, o ≠ 3 → (M.setIfInBounds 3 (.int .u64 (x : Int)))[o]? = M[o]? := fun o ho => by
    rw [Array.getElem?_setIfInBounds, if_neg (by omega)]
  obtain ⟨t, hft⟩ := h.ft
  obtain ⟨f, t', k, dd, lo, hi, gg, gr, ro, hqr⟩ := h.qr
  exact ⟨by simp [h.sz], all_set h.one 3 rfl, ⟨t, sub_other hft fun i h1 h2 => hs i (by omega)⟩, ⟨f, t', k, dd, lo, hi, gg, gr, ro, sub_other hqr fun i h1 h2 => hs i (by omega)⟩, by rw [hs _ (by omega)]; exact h.sg, by rw [hs _ (by omega)]; exact h.gp⟩
/-- The copy of one. -/
theorem Po.patched {M : Array Value} {d s g : Value} (h : Po M d s g) {d' s' g' : Value} (hd : d'.oneCell' = true) (hs : s'.oneCell' = true) (hg : g'.oneCell' = true) (t f t' k dd lo hi gg gr ro : Int) :
    Po (((pat (pat M 9 (fcd t d')) 12 (qcsS f t' k dd lo hi gg gr ro s')).setIfInBounds 39 g').setIfInBounds 40 nl) d' s' g' ∧ ((((pat (pat M 9 (fcd t d')) 12 (qcsS f t' k dd lo hi gg gr ro s')).setIfInBounds 39 g').setIfInBounds 40 nl)[3]? = M[3]?) := by
  have z1 : (pat M 9 (fcd t d')).size = 41 := (pat_size _ _ _).trans h.sz
  have z2 : (pat (pat M 9 (fcd t d')) 12 (qcsS f t' k dd lo hi gg gr ro s')).size = 41 := (pat_size _ _ _).trans z1
  obtain ⟨P, hP⟩ : ∃ P, P = pat (pat M 9 (fcd t d')) 12 (qcsS f t' k dd lo hi gg gr ro s') := ⟨_, rfl⟩
  have s1 : sub P 9 (fcd t d') := by
    rw [hP]
    exact sub_other (pat_sub (fcd t d') M 9 (by rw [h.sz]; show 9 + 3 ≤ 41; omega)) fun i h1 h2 => pat_other _ _ _ _ (.inl (by have : i < 9 + 3 := h2; omega))
  have s2 : sub P 12 (qcsS f t' k dd lo hi gg gr ro s') := by rw [hP]; exact pat_sub _ _ _ (by rw [z1]; show 12 + 13 ≤ 41; omega)
  have a1 : P.all (·.oneCell') = true := by
    rw [hP]
    refine pat_all _ _ _ (pat_all _ _ _ h.one fun u hu => ?_) fun u hu => ?_
    · simp only [fcd, List.mem_cons, List.not_mem_nil, or_false] at hu; rcases hu with rfl | rfl | rfl <;> first | rfl | exact hd
    · simp only [qcsS, List.mem_cons, List.not_mem_nil, or_false] at hu; rcases hu with rfl | rfl | rfl | rfl | rfl | rfl | rfl | rfl | rfl | rfl | rfl | rfl | rfl <;> first | rfl | exact hs
  have k3 : P[3]? = M[3]? := by rw [hP, pat_other _ _ _ _ (.inl (by omega)), pat_other _ _ _ _ (.inl (by omega))]
  rw [← hP] at z2 ⊢
  have ho : ∀ i, i < 39 → ((P.setIfInBounds 39 g').setIfInBounds 40 nl)[i]? = P[i]? := fun i hi => by
    rw [Array.getElem?_setIfInBounds, if_neg (by omega), Array.getElem?_setIfInBounds, if_neg (by omega)]
  refine ⟨⟨by simp [z2], all_set (all_set a1 39 hg) 40 rfl, ⟨t, sub_other s1 fun i h1 h2 => ho i (by have : i < 9 + 3 := h2; omega)⟩, ⟨f, t', k, dd, lo, hi, gg, gr, ro, sub_other s2 fun i h1 h2 => ho i (by have : i < 12 + 13 := h2; omega)⟩, ?_, ?_⟩, ?_⟩
  · rw [Array.getElem?_setIfInBounds, if_neg (by omega), Array.getElem?_setIfInBounds, if_pos rfl, if_pos (by omega)]
  · rw [Array.getElem?_setIfInBounds, if_pos rfl, if_pos (by simp; omega)]
  · rw [ho 3 (by omega)]; exact k3
end Go.Proofs.Ytnkllgpibmofiaa
