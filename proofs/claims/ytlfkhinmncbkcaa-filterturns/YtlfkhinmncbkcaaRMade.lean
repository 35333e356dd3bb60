/- Storing into a result's box leaves the other blocks. -/
import Derived.Test.YtlfkhinmncbkcaaLeaf
import Derived.Test.YtlfkhinmncbkcaaLaws0
namespace Go.Proofs.Ytlfkhinmncbkcaa
open Go.RowKit Go.Sort

theorem fitA_kids2 {D M : Int} {t : Tr} (h2 : t.k = 2) (h : t.fitA D M = true) : t.ks.length = 1 := by
  rw [t.fitA_eq, Bool.and_eq_true] at h
  have hf := h.1
  unfold Tr.fit at hf
  rw [if_neg (by omega), if_pos h2] at hf
  simpa using hf
theorem put6_off {w : World} {g k : Nat} (h : k ≠ g) (o0 o1 o2 o3 o4 o5 : Nat) (x0 x1 x2 x3 x4 x5 : Value) :
    ((((((w.setCell ⟨g, o0, none⟩ x0).setCell ⟨g, o1, none⟩ x1).setCell ⟨g, o2, none⟩ x2).setCell ⟨g, o3, none⟩ x3).setCell ⟨g, o4, none⟩ x4).setCell ⟨g, o5, none⟩ x5).heap[k]? = w.heap[k]? := by
  rw [Below.heap_setCell _ _ _ _ h, Below.heap_setCell _ _ _ _ h, Below.heap_setCell _ _ _ _ h, Below.heap_setCell _ _ _ _ h, Below.heap_setCell _ _ _ _ h, Below.heap_setCell _ _ _ _ h]
end Go.Proofs.Ytlfkhinmncbkcaa
