/- A map from numbers to counts, said as a function. No walk stands here. -/
import Derived.Test.YtnkllgpibmofiaaSeM
namespace Go.Proofs.Ytnkllgpibmofiaa
open Go.RowKit Go.Maps
set_option linter.unusedVariables false

/-- What the map says, 0 where it has nothing. -/
def MFn (D : DataW Unit) (f : Nat → Int) : Prop := ∀ x : Nat, D.atKey (.int .u64 (x : Int)) (.lit (.int .i64 0)) = .lit (.int .i64 (f x))
theorem MFn.nil : MFn (.map []) fun _ => 0 := fun x => rfl
theorem MFn.put {D : DataW Unit} {f : Nat → Int} (h : MFn D f) (hD : Tidy D) (k : Nat) (v : Int) : MFn (D.put (.int .u64 (k : Int)) (.lit (.int .i64 v))) fun x => if x = k then v else f x := fun x => by
  show _ = DataW.lit (.int .i64 (if x = k then v else f x))
  by_cases e : x = k
  · subst e
    rw [if_pos rfl, atKey_put_same hD.isMap (show WideAt.IsKeyLit (Lit.int .u64 (x : Int)) from trivial)]
  · rw [if_neg e, atKey_put_other (litU_ne e), h x]
abbrev OwM (w : World) (m n : Nat) (D : DataW Unit) : Prop := w.ownsMap Try.prog 28 (plainElem Try.prog 3) m n D
theorem mf_look {w : World} {m n : Nat} {D : DataW Unit} {f : Nat → Int} (h : OwM w m n D) (hf : MFn D f) (x : Nat) (hx : U64 x) : (Instr.lookup 85 (.map (some m)) (.int .u64 (x : Int)) false).run Try.prog w = .ok (.int .i64 (f x)) w := by
  obtain ⟨v, ps, hrun, hv⟩ := h.lookup lawU Try.underlying85 (Try.zeroValue3 w) (plainElem_int Try.underlying3 (by decide)) (keyU x hx)
  rw [hf x] at hv
  obtain ⟨a, rfl, e, _⟩ := plainElem_int_inv Try.underlying3 hv
  simp only [Prod.mk.injEq, DataW.lit.injEq, Lit.int.injEq, true_and] at e
  rw [e.1]
  exact hrun
theorem mf_store {w : World} {m n : Nat} {D : DataW Unit} {f : Nat → Int} (h : OwM w m n D) (hf : MFn D f) (hn : n < maxLen) (x : Nat) (hx : U64 x) (v : Int) (hv : B64 v) :
    ∃ w', (Instr.mapUpdate 85 (.map (some m)) (.int .u64 (x : Int)) (.int .i64 v)).run Try.prog w = .ok () w' ∧ OwM w' m (n + 1) (D.put (.int .u64 (x : Int)) (.lit (.int .i64 v))) ∧ w.mapTurned w' m :=
  h.store lawU Try.underlying85 hn (keyU x hx) (plainElem_int Try.underlying3 (by
    have e1 : IntKind.i64.min = -9223372036854775808 := by decide
    have e2 : IntKind.i64.max = 9223372036854775807 := by decide
    simp only [Lit.wf, e1, e2, Bool.and_eq_true, decide_eq_true_eq]
    exact hv))
/-- A map that has just the numbers from 1 to s. -/
structure MTo (D : DataW Unit) (s : Nat) : Prop where
  has : ∀ x : Nat, Maps.has D (.int .u64 (x : Int)) = decide (1 ≤ x ∧ x ≤ s)
  size : Maps.size D = s
theorem MTo.nil : MTo (.map []) 0 := ⟨fun x => by simp [Maps.has]; omega, rfl⟩
theorem MTo.next {D : DataW Unit} {s : Nat} (h : MTo D s) (hD : Tidy D) (d : DataW Unit) : MTo (D.put (.int .u64 ((s + 1 : Nat) : Int)) d) (s + 1) := by
  refine ⟨fun x => ?_, ?_⟩
  · by_cases e : x = s + 1
    · subst e
      rw [has_put_same hD.isMap (show WideAt.IsKeyLit (Lit.int .u64 ((s + 1 : Nat) : Int)) from trivial)]
      symm
      rw [decide_eq_true_eq]
      omega
    · rw [has_put_other (litU_ne e), h.has x]
      congr 1
      exact propext ⟨fun q => by omega, fun q => by omega⟩
  · rw [size_put hD, h.has (s + 1), h.size]
    simp
theorem MTo.same {D : DataW Unit} {s : Nat} (h : MTo D s) (hD : Tidy D) (k : Nat) (hk : 1 ≤ k ∧ k ≤ s) (d : DataW Unit) : MTo (D.put (.int .u64 (k : Int)) d) s := by
  refine ⟨fun x => ?_, ?_⟩
  · by_cases e : x = k
    · subst e
      rw [has_put_same hD.isMap (show WideAt.IsKeyLit (Lit.int .u64 (x : Int)) from trivial)]
      symm
      rw [decide_eq_true_eq]
      exact hk
    · rw [has_put_other (litU_ne e), h.has x]
  · rw [size_put hD, h.has k, h.size]
    simp [hk]
end Go.Proofs.Ytnkllgpibmofiaa
