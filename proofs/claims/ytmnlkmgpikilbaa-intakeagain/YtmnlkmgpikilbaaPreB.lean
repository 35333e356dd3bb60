/- A region that draws its order: its first operations walked once, in the order of the text; then whatever order is picked. -/
import Derived.Lib.QuietBelow
import Derived.RegionCalls
import Derived.Shelf.SlSortCmp.QuietGrown
import Derived.BigQuiet
import Derived.Test.YtmnlkmgpikilbaaProg
namespace Go.Proofs.Ytmnlkmgpikilbaa
open Go Go.Sort Go.RowKit

section
variable {P : Program} {ops : Array Oper} {md : Region.Mode} {C : World → Prop} {k : Nat}

/-- The operations listed once the first ones have come up, in the order of the text. -/
def listTo : Nat → Nat → Array Bool → Array Bool
  | 0, _, l => l
  | n + 1, i, l => listTo n (i + 1) (l.setIfInBounds i true)
def lexTo (md : Region.Mode) (ops : Array Oper) : Nat → Nat → Array Bool → Bool
  | 0, _, _ => true
  | n + 1, i, l => (Region.ready md ops l).contains i && Region.free md ops l i && lexTo md ops n (i + 1) (l.setIfInBounds i true)
/-- Every operation behind the first k waits for the last one of them, or for one behind; each of the first ones is waited for by a later one of them, or by all behind. -/
def waitsB (md : Region.Mode) (ops : Array Oper) (k : Nat) : Bool :=
  ((List.range ops.size).all fun j => decide (j < k) || match ops[j]? with
    | some o => o.after.any fun e => Region.binds md e && (e.on + 1 == k || decide (k ≤ e.on))
    | none => true) &&
  ((List.range k).all fun i => i + 1 == k || ((List.range k).any fun j => decide (i < j) && match ops[j]? with
    | some o => o.after.any fun e => Region.binds md e && e.on == i
    | none => false) || ((List.range ops.size).all fun j => decide (j < k) || match ops[j]? with
    | some o => o.after.any fun e => Region.binds md e && (e.on == i || decide (k ≤ e.on))
    | none => true))

/-- What is listed lies among the first k, and so does all that it waited for. -/
def Inv (md : Region.Mode) (ops : Array Oper) (k : Nat) (listed : Array Bool) : Prop :=
  ∀ j, listed.getD j false = true → j < k ∧ ∀ o, ops[j]? = some o → ∀ e ∈ o.after, Region.binds md e = true → listed.getD e.on false = true

theorem Inv.set {listed : Array Bool} (h : Inv md ops k listed) {i : Nat} (hi : i ∈ Region.ready md ops listed) (hk : i < k) : Inv md ops k (listed.setIfInBounds i true) := by
  intro j hj
  obtain ⟨hun, o, ho, hall⟩ := mem_ready.1 hi
  by_cases hji : j = i
  · subst hji
    refine ⟨hk, fun o' ho' e he hb => ?_⟩
    rw [ho] at ho'
    cases ho'
    exact getD_set_true (hall e he hb)
  · rw [getD_set_ne false (Ne.symm hji)] at hj
    obtain ⟨h1, h2⟩ := h j hj
    exact ⟨h1, fun o' ho' e he hb => getD_set_true (h2 o' ho' e he hb)⟩

/-- Nothing behind the first k may come up while one of them has not. -/
theorem ready_lt (hB : waitsB md ops k = true) {listed : Array Bool} (h : Inv md ops k listed) {i : Nat} (hi : i < k) (hun : listed.getD i false = false) {j : Nat} (hj : j ∈ Region.ready md ops listed) : j < k := by
  simp only [waitsB, Bool.and_eq_true, List.all_eq_true, List.mem_range] at hB
  obtain ⟨hB1, hB2⟩ := hB
  apply Classical.byContradiction
  intro hjk
  obtain ⟨_, o, ho, hall⟩ := mem_ready.1 hj
  have h1 := hB1 j (Array.getElem?_eq_some_iff.1 ho).1
  simp only [ho, Bool.or_eq_true, decide_eq_true_eq, hjk, false_or] at h1
  obtain ⟨e, he, hb⟩ := Array.any_eq_true'.1 h1
  simp only [Bool.and_eq_true, Bool.or_eq_true, beq_iff_eq, decide_eq_true_eq] at hb
  have hl := hall e he hb.1
  have hlt := (h _ hl).1
  have hlast : e.on + 1 = k := by omega
  have all : ∀ n x, x + n + 1 = k → listed.getD x false = true := by
    intro n
    induction n using Nat.strongRecOn with
    | _ n ih =>
      intro x hx
      by_cases hxl : x + 1 = k
      · have : x = e.on := by omega
        rw [this]; exact hl
      · have h2 := hB2 x (by omega)
        simp only [Bool.or_eq_true, beq_iff_eq, hxl, false_or] at h2
        rcases h2 with h2 | h2
        rotate_left
        · have h3 := (List.all_eq_true.1 h2) j (List.mem_range.2 (Array.getElem?_eq_some_iff.1 ho).1)
          simp only [ho, Bool.or_eq_true, decide_eq_true_eq, hjk, false_or] at h3
          obtain ⟨e', he', hb'⟩ := Array.any_eq_true'.1 h3
          simp only [Bool.and_eq_true, Bool.or_eq_true, beq_iff_eq, decide_eq_true_eq] at hb'
          have hl' := hall e' he' hb'.1
          rcases hb'.2 with q | q
          · rw [q] at hl'
            exact hl'
          · have := (h _ hl').1
            omega
        obtain ⟨y, hy, hyc⟩ := List.any_eq_true.1 h2
        rw [List.mem_range] at hy
        simp only [Bool.and_eq_true, decide_eq_true_eq] at hyc
        obtain ⟨hxy, hyo⟩ := hyc
        have hyl := ih (k - y - 1) (by omega) y (by omega)
        cases hoy : ops[y]? with
        | none => rw [hoy] at hyo; cases hyo
        | some oy =>
          rw [hoy] at hyo
          obtain ⟨e', he', hb'⟩ := Array.any_eq_true'.1 hyo
          simp only [Bool.and_eq_true, beq_iff_eq] at hb'
          have := (h y hyl).2 oy hoy e' he' hb'.1
          rw [hb'.2] at this
          exact this
  rw [all (k - i - 1) i (by omega)] at hun
  cases hun

/-- Whatever order is picked, till all of the first k have come up. -/
def wpAnyP (P : Program) (md : Region.Mode) (ops : Array Oper) (C : World → Prop) (T : Act → Prop) (k : Nat) (full : Array Bool) : Nat → Array Bool → Act → Prop
  | 0, listed, a => listed = full ∧ T a
  | fuel + 1, listed, a => Region.ready md ops listed ≠ [] ∧ ∀ i ∈ Region.ready md ops listed, qOp P ops C i (wpAnyP P md ops C T k full fuel (listed.setIfInBounds i true)) a

theorem getD_tf {l : Array Bool} {j : Nat} (h : l.getD j true = false) : l.getD j false = false := by
  rcases Nat.lt_or_ge j l.size with h' | h'
  · simp [h'] at h ⊢; exact h
  · simp [h'] at h

theorem wpAnyP_first {T : Act → Prop} {full : Array Bool} (hB : waitsB md ops k = true) (hfull : ∀ j, j < k → full.getD j true = true) {i : Nat} {oi : Oper} {v : Value} (hi : ops[i]? = some oi) (hik : i < k) (hsel : ∀ (j : Nat) (o : Oper) cs b, ops[j]? = some o → o.op ≠ .select cs b) :
    ∀ (fuel : Nat) (listed : Array Bool) (a : Act), Inv md ops k listed →
      (∀ j oj, ops[j]? = some oj → j ≠ i → listed.getD j true = false → (∀ e ∈ oj.after, Region.binds md e = true → e.on ≠ i) → oi.apart ops oj = true) →
      i ∈ Region.ready md ops listed → YieldsIn P ops C oi v a →
      wpAnyP P md ops C T k full fuel (listed.setIfInBounds i true) (a.put oi.dst v) → wpAnyP P md ops C T k full (fuel + 1) listed a := by
  intro fuel
  induction fuel with
  | zero =>
    intro listed a hinv _ hr hy H
    refine ⟨fun h => (by rw [h] at hr; cases hr), fun j hj => ?_⟩
    by_cases hji : j = i
    · subst hji; exact hy.qOp hi H
    · have hjk := ready_lt hB hinv hik (getD_tf (mem_ready.1 hr).1) hj
      have h1 := (mem_ready.1 hj).1
      have h2 := hfull j hjk
      rw [← H.1, getD_set_ne true (Ne.symm hji), h1] at h2
      cases h2
  | succ fuel ih =>
    intro listed a hinv hfree hr hy H
    refine ⟨fun h => (by rw [h] at hr; cases hr), fun j hj => ?_⟩
    by_cases hji : j = i
    · subst hji; exact hy.qOp hi H
    · have h1 := H.2 j (ready_mono hj hji)
      have hjk := ready_lt hB hinv hik (getD_tf (mem_ready.1 hr).1) hj
      obtain ⟨hjun, oj, hoj, hall⟩ := mem_ready.1 hj
      have hnot : ∀ e ∈ oj.after, Region.binds md e = true → e.on ≠ i := fun e he hb heq => by
        have h1 := hall e he hb
        have h0 := (mem_ready.1 hr).1
        rw [heq] at h1
        rcases Nat.lt_or_ge i listed.size with h' | h'
        · simp [h'] at h0 h1; rw [h0] at h1; cases h1
        · simp [Array.getElem?_eq_none h'] at h1
      have h2 := qOp_put hoj (hfree j oj hoj hji hjun hnot) (fun cs b => hsel i oi cs b hi) (fun cs b => hsel j oj cs b hoj) hy h1
      have hfree' : ∀ k ok, ops[k]? = some ok → k ≠ i → (listed.setIfInBounds j true).getD k true = false →
          (∀ e ∈ ok.after, Region.binds md e = true → e.on ≠ i) → oi.apart ops ok = true := fun k ok hk hki hun hno => by
        refine hfree k ok hk hki ?_ hno
        by_cases hjk : j = k
        · subst hjk; exact hjun
        · rw [getD_set_ne true hjk] at hun; exact hun
      refine qOp_mono (fun a' h3 => ih (listed.setIfInBounds j true) a' (hinv.set hj hjk) hfree' (ready_mono hr (Ne.symm hji)) h3.1 ?_) h2
      rw [Array.setIfInBounds_comm _ _ hji]
      exact h3.2

theorem wpAnyP_lex {T : Act → Prop} {full : Array Bool} (hB : waitsB md ops k = true) (hfull : ∀ j, j < k → full.getD j true = true) (hs : Region.noSelect ops = true) : ∀ (l : List Oper) (i : Nat) (listed : Array Bool) (a : Act), (∀ j, j < l.length → l[j]? = ops[i + j]?) → i + l.length ≤ k → Inv md ops k listed → listTo l.length i listed = full →
    lexTo md ops l.length i listed = true → wpQuiet P ops C T l a → wpAnyP P md ops C T k full l.length listed a
  | [], _, _, _, _, _, _, hf, _, h => ⟨hf, h⟩
  | o :: l, i, listed, a, hl, hik, hinv, hf, hL, h => by
    have h0 : ops[i]? = some o := by simpa using (hl 0 (by simp)).symm
    simp only [List.length_cons, lexTo, Bool.and_eq_true] at hL
    obtain ⟨⟨hr, hfr⟩, hL'⟩ := hL
    simp only [List.length_cons] at hik
    have hri : i ∈ Region.ready md ops listed := by simpa using hr
    have hst : qOp P ops C i (wpQuiet P ops C T l) a := by unfold qOp; simp only [h0]; exact h
    obtain ⟨v, hy, hK⟩ := yieldsIn_of_qOp h0 hst
    exact wpAnyP_first hB hfull h0 (by omega) (Region.noSelect_spec hs) l.length listed a hinv (Region.free_spec h0 hfr) hri hy
      (wpAnyP_lex hB hfull hs l (i + 1) _ _ (fun j hj => by have := hl (j + 1) (by simp; omega); simpa [Nat.add_assoc, Nat.add_comm 1 j] using this) (by omega) (hinv.set hri (by omega)) hf hL' hK)

theorem wpAny_of_P {T : Act → Prop} {full : Array Bool} {Q : Exit → Act → World → Prop} {m : Nat} (hT : ∀ a w, C w → T a → wpAny P md ops Q m full a w) : ∀ (fuel : Nat) (listed : Array Bool) (a : Act) (w : World), C w → wpAnyP P md ops C T k full fuel listed a → wpAny P md ops Q (fuel + m) listed a w
  | 0, listed, a, w, hw, h => by
    obtain ⟨rfl, h2⟩ := h
    rw [Nat.zero_add]
    exact hT a w hw h2
  | fuel + 1, listed, a, w, hw, h => by
    rw [show fuel + 1 + m = (fuel + m) + 1 by omega]
    exact ⟨fun h0 => absurd h0 h.1, fun i hi => wpOp_of_qOp hw (fun a' w' hw' => wpAny_of_P hT fuel _ a' w' hw') (h.2 i hi)⟩
end

/-- The first k operations of a region that draws its order, walked once, in the order of the text; then whatever order is picked. -/
theorem wp_region_first {P : Program} {C : World → Prop} {id : Nat} {Q : Exit → Act → World → Prop} {a : Act} {w : World} {l : List Oper} (k m : Nat) (hm : P.follows .mixedOrders = true) (hsz : l.length = k + m) (hs : Region.noSelect l.toArray = true) (hB : waitsB .any l.toArray k = true)
    (hL : lexTo .any l.toArray k 0 (Array.replicate l.length false) = true) (hfull : ((List.range k).all fun j => (listTo k 0 (Array.replicate l.length false)).getD j true) = true) (hC : C { w with drawn := w.drawn + 1 })
    (h : wpQuiet P l.toArray C (fun a' => ∀ w', C w' → wpAny P .any l.toArray Q m (listTo k 0 (Array.replicate l.length false)) a' w') (l.take k) a) : (Code.region id l.toArray true).wp P Q a w := by
  refine wp_region_any hm ?_
  have hlen : (l.take k).length = k := by rw [List.length_take]; omega
  have h1 := wpAnyP_lex (P := P) (C := C) (md := .any) (ops := l.toArray) (k := k) (T := fun a' => ∀ w', C w' → wpAny P .any l.toArray Q m (listTo k 0 (Array.replicate l.length false)) a' w') (full := listTo k 0 (Array.replicate l.length false)) hB
    (fun j hj => (List.all_eq_true.1 hfull) j (List.mem_range.2 hj)) hs (l.take k) 0 (Array.replicate l.length false) a (fun j hj => by rw [hlen] at hj; simp [hj]) (by omega)
    (fun j hj => by
      rcases Nat.lt_or_ge j l.length with h' | h'
      · simp [h'] at hj
      · simp [h'] at hj)
    (by rw [hlen]) (by rw [hlen]; exact hL) h
  rw [hlen] at h1
  have h2 := wpAny_of_P (k := k) (Q := Q) (m := m) (fun a w hw h => h w hw) k _ _ _ hC h1
  rw [← hsz] at h2
  simpa using h2
/-- The same, the worlds being those that grow. -/
theorem wp_region_first_grown {P : Program} {id : Nat} {Q : Exit → Act → World → Prop} {a : Act} {w : World} {l : List Oper} (k m : Nat) (hm : P.follows .mixedOrders = true) (hsz : l.length = k + m) (hs : Region.noSelect l.toArray = true) (hB : waitsB .any l.toArray k = true)
    (hL : lexTo .any l.toArray k 0 (Array.replicate l.length false) = true) (hfull : ((List.range k).all fun j => (listTo k 0 (Array.replicate l.length false)).getD j true) = true)
    (h : wpQuiet P l.toArray (fun w' => ∃ p : GrownBy, w' = grow (w.drewN p.n) p.os) (fun a' => ∀ w', (∃ p : GrownBy, w' = grow (w.drewN p.n) p.os) → wpAny P .any l.toArray Q m (listTo k 0 (Array.replicate l.length false)) a' w') (l.take k) a) : (Code.region id l.toArray true).wp P Q a w :=
  wp_region_first (C := fun w' => ∃ p : GrownBy, w' = grow (w.drewN p.n) p.os) k m hm hsz hs hB hL hfull ⟨⟨1, #[]⟩, by rw [grow_empty]; rfl⟩ h
end Go.Proofs.Ytmnlkmgpikilbaa
