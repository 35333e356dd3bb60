/- The law for regions, the frame laid out once. -/
import Derived.Test.YtkoihniggoelnaaReg
namespace Go.Proofs.Ytkoihniggoelnaa
open Go.RowKit Go.Sort

section
variable {P : Program} {Q : Exit → Act → World → Prop} {β : Type}
/-- What is asked of the operations, one by one: the frame is fr of the slots' values. -/
def StepsF (P : Program) (Q : Exit → Act → World → Prop) (ops : Array Oper) (fr : β → Act) (Inv : β → (Nat → Bool) → World → Prop) : List Oper → Nat → Prop
  | [], _ => True
  | o :: l, i => (∀ d x w, Inv x d w → d i = false → (∀ j ∈ depIdx o, d j = true) → ∀ K' : Act → World → Prop, Hid (∀ x w, Inv x (upd d i) w → K' (fr x) w) → Opn (fun a => if Region.wanted o (yielded ops a.tmps) = true then Oper.wp P o a w K' Q else K' (a.put o.dst undef) w) (fr x)) ∧ StepsF P Q ops fr Inv l (i + 1)
theorem StepsF.steps {ops : Array Oper} {fr : β → Act} {Inv : β → (Nat → Bool) → World → Prop} : ∀ (l : List Oper) (i : Nat), StepsF P Q ops fr Inv l i → Steps P Q ops (fun d a w => ∃ x, a = fr x ∧ Inv x d w) l i
  | [], _, _ => trivial
  | o :: l, i, h => by
    refine ⟨?_, StepsF.steps l (i + 1) h.2⟩
    rintro d a w ⟨x, rfl, hI⟩ hd hdp K' hK
    exact h.1 d x w hI hd hdp K' fun x w hx => hK.out (fr x) w ⟨x, rfl, hx⟩
theorem wp_region_invF {l : List Oper} {id : Nat} {a : Act} {w : World} (puts : Act → β → Act) (fr : β → Act) (Inv : β → (Nat → Bool) → World → Prop) (_hfr : ∀ x, puts a x = fr x) (hm : P.follows .mixedOrders = true) (hlex : lexDeps l 0 = true)
    (h0 : ∃ x, a = fr x ∧ Inv x (fun _ => false) w.drew) (hs : StepsF P Q l.toArray fr Inv l 0) (hend : ∀ d x w', (∀ i, i < l.length → d i = true) → Inv x d w' → Q .normal (fr x) w') : (Code.region id l.toArray true).wp P Q a w :=
  wp_region_inv (fun d a w => ∃ x, a = fr x ∧ Inv x d w) hm hlex h0 (StepsF.steps l 0 hs) (by rintro d a w' hall ⟨x, rfl, hI⟩; exact hend d x w' hall hI)
end
end Go.Proofs.Ytkoihniggoelnaa
