/- A region that draws its order, by what is known behind each of its operations: one step an operation, whatever order is drawn. -/
import Derived.Test.YtnkllgpibmofiaaGro
import Derived.Orders
import Derived.RegionTactic
namespace Go.Proofs.Ytnkllgpibmofiaa
open Go.RowKit Go.Sort

section
variable {P : Program} {Q : Exit → Act → World → Prop}
/-- A goal that no tactic looks into till it is opened. -/
structure Opn (G : Act → Prop) (a : Act) : Prop where
  out : G a
def upd (d : Nat → Bool) (i : Nat) : Nat → Bool := fun j => j == i || d j
/-- Behind which operations one comes. -/
def depIdx (o : Oper) : List Nat := (o.after.toList.filter (Region.binds .any)).map (·.on)
def lexDeps : List Oper → Nat → Bool
  | [], _ => true
  | o :: l, i => (depIdx o).all (fun j => decide (j < i)) && lexDeps l (i + 1)
theorem lexDeps_at : ∀ (l : List Oper) (k i : Nat) (o : Oper), lexDeps l k = true → l[i]? = some o → ∀ j ∈ depIdx o, j < k + i
  | [], _, _, _, _, h => by simp at h
  | x :: l, k, 0, o, h, e => by
    simp only [List.getElem?_cons_zero, Option.some.injEq] at e
    subst e
    simp only [lexDeps, Bool.and_eq_true, List.all_eq_true, decide_eq_true_eq] at h
    intro j hj
    have := h.1 j hj
    omega
  | x :: l, k, i + 1, o, h, e => by
    simp only [lexDeps, Bool.and_eq_true] at h
    intro j hj
    have := lexDeps_at l (k + 1) i o h.2 (by simpa using e) j hj
    omega
/-- What is asked of the operations, one by one. -/
def Steps (P : Program) (Q : Exit → Act → World → Prop) (ops : Array Oper) (Inv : (Nat → Bool) → Act → World → Prop) : List Oper → Nat → Prop
  | [], _ => True
  | o :: l, i => (∀ d a w, Inv d a w → d i = false → (∀ j ∈ depIdx o, d j = true) → ∀ K' : Act → World → Prop, Hid (∀ a w, Inv (upd d i) a w → K' a w) → Opn (fun a => if Region.wanted o (yielded ops a.tmps) = true then Oper.wp P o a w K' Q else K' (a.put o.dst undef) w) a) ∧ Steps P Q ops Inv l (i + 1)
theorem Steps.at {ops : Array Oper} {Inv : (Nat → Bool) → Act → World → Prop} : ∀ (l : List Oper) (k i : Nat) (o : Oper), Steps P Q ops Inv l k → l[i]? = some o → (∀ d a w, Inv d a w → d (k + i) = false → (∀ j ∈ depIdx o, d j = true) → ∀ K' : Act → World → Prop, Hid (∀ a w, Inv (upd d (k + i)) a w → K' a w) → Opn (fun a => if Region.wanted o (yielded ops a.tmps) = true then Oper.wp P o a w K' Q else K' (a.put o.dst undef) w) a)
  | [], _, _, _, _, h => by simp at h
  | x :: l, k, 0, o, h, e => by
    simp only [List.getElem?_cons_zero, Option.some.injEq] at e
    subst e
    exact h.1
  | x :: l, k, i + 1, o, h, e => by
    have := Steps.at l (k + 1) i o h.2 (by simpa using e)
    rw [show k + 1 + i = k + (i + 1) by omega] at this
    exact this
theorem getD_set (b : Array Bool) (i j : Nat) (h : i < b.size) : (b.setIfInBounds i true).getD j false = (j == i || b.getD j false) := by
  simp only [Array.getD_eq_getD_getElem?, Array.getElem?_setIfInBounds]
  by_cases e : i = j
  · subst e; simp [h]
  · have : (j == i) = false := by simpa using fun x => e x.symm
    simp [e, this]
theorem wpAny_inv {l : List Oper} {Inv : (Nat → Bool) → Act → World → Prop} (hlex : lexDeps l 0 = true) (hs : Steps P Q l.toArray Inv l 0) (hend : ∀ d a w, (∀ i, i < l.length → d i = true) → Inv d a w → Q .normal a w) :
    ∀ (fuel : Nat) (b : Array Bool) (a : Act) (w : World), b.size = l.length → (b.toList.filter (!·)).length ≤ fuel → Inv (fun j => b.getD j false) a w → wpAny P .any l.toArray Q fuel b a w := by
  have hready : ∀ b : Array Bool, b.size = l.length → ∀ i, i ∈ Region.ready .any l.toArray b ↔ ∃ o, l[i]? = some o ∧ b.getD i false = false ∧ ∀ j ∈ depIdx o, b.getD j false = true := by
    intro b hb i
    simp only [Region.ready, List.mem_filter, List.mem_range, List.size_toArray, Bool.and_eq_true, Bool.not_eq_true', List.getElem?_toArray]
    constructor
    · rintro ⟨h1, h2, h3⟩
      refine ⟨l[i], by simp [h1], ?_, ?_⟩
      · rw [Array.getD_eq_getD_getElem?] at h2 ⊢
        have : i < b.size := by omega
        simp [this] at h2 ⊢; exact h2
      · simp only [List.getElem?_eq_getElem h1, Option.map_some, Option.getD_some] at h3
        rw [← Array.all_toList, List.all_eq_true] at h3
        intro j hj
        obtain ⟨e, he, rfl⟩ := List.mem_map.1 hj
        have he := List.mem_filter.1 he
        have := h3 e he.1
        simpa [he.2] using this
    · rintro ⟨o, h1, h2, h3⟩
      have hi : i < l.length := (List.getElem?_eq_some_iff.1 h1).1
      refine ⟨hi, ?_, ?_⟩
      · rw [Array.getD_eq_getD_getElem?] at h2 ⊢
        have : i < b.size := by omega
        simp [this] at h2 ⊢; exact h2
      · simp only [h1, Option.map_some, Option.getD_some]
        rw [← Array.all_toList, List.all_eq_true]
        intro e he
        cases hb : Region.binds .any e with
        | false => rfl
        | true => simpa using h3 e.on (List.mem_map.2 ⟨e, List.mem_filter.2 ⟨he, hb⟩, rfl⟩)
  have hdone : ∀ b : Array Bool, b.size = l.length → Region.ready .any l.toArray b = [] → ∀ i, i < l.length → b.getD i false = true := by
    intro b hb hr i
    induction i using Nat.strongRecOn with
    | _ i ih =>
      intro hi
      refine Classical.byContradiction fun hne => ?_
      have : i ∈ Region.ready .any l.toArray b := (hready b hb i).2 ⟨l[i], by simp [hi], by simpa using hne, fun j hj => by
        have := lexDeps_at l 0 i l[i] hlex (by simp [hi]) j hj
        exact ih j (by omega) (by omega)⟩
      rw [hr] at this
      cases this
  intro fuel
  induction fuel with
  | zero =>
    intro b a w hb hf hI
    have hall : ∀ i, i < l.length → b.getD i false = true := fun i hi => by
      have h0 : b.toList.filter (!·) = [] := List.eq_nil_of_length_eq_zero (by omega)
      rw [List.filter_eq_nil_iff] at h0
      have := h0 (b[i]'(by omega)) (by simp)
      rw [Array.getD_eq_getD_getElem?]
      simp [show i < b.size by omega]
      simpa using this
    refine ⟨?_, hend _ a w hall hI⟩
    refine List.eq_nil_iff_forall_not_mem.2 fun i hi => ?_
    obtain ⟨o, h1, h2, _⟩ := (hready b hb i).1 hi
    rw [hall i (List.getElem?_eq_some_iff.1 h1).1] at h2
    cases h2
  | succ fuel ih =>
    intro b a w hb hf hI
    refine ⟨fun hr => hend _ a w (hdone b hb hr) hI, fun i hi => ?_⟩
    obtain ⟨o, h1, h2, h3⟩ := (hready b hb i).1 hi
    have hil : i < l.length := (List.getElem?_eq_some_iff.1 h1).1
    have hst := Steps.at l 0 i o hs h1
    rw [Nat.zero_add] at hst
    refine wpOp_step (o := o) (by simpa using h1) fun K' hK => (hst _ a w hI h2 h3 K' fun a' w' hI' => hK a' w' ?_).out
    refine ih _ a' w' (by simp [hb]) ?_ ?_
    · have hib : i < b.size := by omega
      have hcount : ∀ (m : List Bool) (i : Nat), m[i]? = some false → ((m.set i true).filter (!·)).length + 1 = (m.filter (!·)).length := by
        intro m
        induction m with
        | nil => intro i h; simp at h
        | cons x m im =>
          intro i h
          cases i with
          | zero => simp at h; subst h; simp
          | succ i =>
            have := im i (by simpa using h)
            simp only [List.set_cons_succ, List.filter_cons]
            split <;> first | omega | (simp only [List.length_cons]; omega)
      have hget : b.toList[i]? = some false := by
        rw [Array.getD_eq_getD_getElem?] at h2
        simp [hib] at h2 ⊢
        exact h2
      have := hcount b.toList i hget
      rw [Array.toList_setIfInBounds]
      omega
    · have : (fun j => (b.setIfInBounds i true).getD j false) = upd (fun j => b.getD j false) i := by
        funext j
        exact getD_set b i j (by omega)
      rw [this]
      exact hI'
/-- THE LAW. -/
theorem wp_region_inv {l : List Oper} {id : Nat} {a : Act} {w : World} (Inv : (Nat → Bool) → Act → World → Prop) (hm : P.follows .mixedOrders = true) (hlex : lexDeps l 0 = true)
    (h0 : Inv (fun _ => false) a w.drew) (hs : Steps P Q l.toArray Inv l 0) (hend : ∀ d a w, (∀ i, i < l.length → d i = true) → Inv d a w → Q .normal a w) : (Code.region id l.toArray true).wp P Q a w := by
  refine wp_region_any hm (wpAny_inv hlex hs hend _ _ a _ (by simp) ?_ ?_)
  · simp
  · have : (fun j => (Array.replicate l.toArray.size false).getD j false) = fun _ => false := by
      funext j
      rw [Array.getD_eq_getD_getElem?, Array.getElem?_replicate]
      split <;> rfl
    rw [this]
    exact h0
end
/-- The same, the frame ahead of the region named. -/
theorem wp_region_invA {P : Program} {Q : Exit → Act → World → Prop} {l : List Oper} {id : Nat} {a : Act} {w : World} (Inv : Act → (Nat → Bool) → Act → World → Prop) (hm : P.follows .mixedOrders = true) (hlex : lexDeps l 0 = true)
    (h0 : Inv a (fun _ => false) a w.drew) (hs : Steps P Q l.toArray (Inv a) l 0) (hend : ∀ d a' w', (∀ i, i < l.length → d i = true) → Inv a d a' w' → Q .normal a' w') : (Code.region id l.toArray true).wp P Q a w :=
  wp_region_inv (Inv a) hm hlex h0 hs hend
theorem upd_ne {d : Nat → Bool} {i j : Nat} (h : upd d i j = true) (hn : (j == i) = false) : d j = true := by simpa [upd, hn] using h
theorem upd_no {d : Nat → Bool} {i j : Nat} (hn : (j == i) = false) : upd d i j = d j := by simp [upd, hn]
/-- It holds from here on, whatever is made besides. -/
def Evr (w : World) (φ : World → Prop) : Prop := ∀ w', Below w.heap.size w w' → φ w'
theorem Evr.up {w w' : World} {φ : World → Prop} (h : Evr w φ) (b : Below w.heap.size w w') : Evr w' φ := fun w'' b' => h w'' (b.trans (b'.mono b.size))
theorem Evr.now {w : World} {φ : World → Prop} (h : Evr w φ) : φ w := h w (Below.refl _ _)
section
variable {P : Program} {Q : Exit → Act → World → Prop} {β : Type}
/-- What is asked of the operations, one by one: the frame is fr of the slots' values. -/
def StepsF (P : Program) (Q : Exit → Act → World → Prop) (ops : Array Oper) (fr : β → Act) (Inv : β → (Nat → Bool) → World → Prop) : List Oper → Nat → Prop
  | [], _ => True
  | o :: l, i => (∀ d x w, Inv x d w → d i = false → (∀ j ∈ depIdx o, d j = true) → ∀ K' : Act → World → Prop, Hid (∀ x w, Inv x (upd d i) w → K' (fr x) w) → Opn (fun a => if Region.wanted o (yielded ops a.tmps) = true then Oper.wp P o a w K' Q else K' (a.put o.dst undef) w) (fr x)) ∧ StepsF P Q ops fr Inv l (i + 1)
theorem StepsF.steps {ops : Array Oper} {fr : β → Act} {Inv : β → (Nat → Bool) → World → Prop} : ∀ (l : List Oper) (i : Nat), StepsF P Q ops fr Inv l i → Steps P Q ops (fun d a w => ∃ x, a = fr x ∧ Inv x d w) l i
  | [], _, _ => trivial
  | o :: l, i, h => by
    refine ⟨?_, StepsF.steps l (i + 1) h.2⟩
    rintro d a w ⟨x, rfl, hI⟩ hd hdp K' hK
    exact h.1 d x w hI hd hdp K' fun x w hx => hK.out (fr x) w ⟨x, rfl, hx⟩
theorem wp_region_invF {l : List Oper} {id : Nat} {a : Act} {w : World} (puts : Act → β → Act) (fr : β → Act) (Inv : β → (Nat → Bool) → World → Prop) (_hfr : ∀ x, puts a x = fr x) (hm : P.follows .mixedOrders = true) (hlex : lexDeps l 0 = true)
    (h0 : ∃ x, a = fr x ∧ Inv x (fun _ => false) w.drew) (hs : StepsF P Q l.toArray fr Inv l 0) (hend : ∀ d x w', (∀ i, i < l.length → d i = true) → Inv x d w' → Q .normal (fr x) w') : (Code.region id l.toArray true).wp P Q a w :=
  wp_region_inv (fun d a w => ∃ x, a = fr x ∧ Inv x d w) hm hlex h0 (StepsF.steps l 0 hs) (by rintro d a w' hall ⟨x, rfl, hI⟩; exact hend d x w' hall hI)
end
theorem ph_zero {d : Nat → Bool} {c j : Nat} (h1 : d c = decide (0 < j)) (h2 : d c = false) : j = 0 := by
  rw [h2] at h1
  have := of_decide_eq_false h1.symm
  omega
theorem ph_eq {d : Nat → Bool} {c c' k j : Nat} (h1 : d c = decide (k + 1 < j)) (h2 : d c = false) (h3 : d c' = decide (k < j)) (h4 : d c' = true) : j = k + 1 := by
  rw [h2] at h1
  rw [h4] at h3
  have := of_decide_eq_false h1.symm
  have := of_decide_eq_true h3.symm
  omega
theorem ph_end {d : Nat → Bool} {c k j : Nat} (h : j ≤ k + 1) (h1 : d c = decide (k < j)) (h2 : d c = true) : j = k + 1 := by
  rw [h2] at h1
  have := of_decide_eq_true h1.symm
  omega
end Go.Proofs.Ytnkllgpibmofiaa
