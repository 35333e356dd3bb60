/- Worlds further on. -/
import Derived.Test.YtmnlkmgpikilbaaStepN
import Derived.Handy
import Derived.Shelf.SlSortCmp.QuietGrown
import Derived.BigQuiet
import Derived.Deep.WholeRow
import Derived.Deep.CutBlock
import Derived.Deep.RegionLaw
namespace Go.Proofs.Ytmnlkmgpikilbaa
open Go.RowKit Go.Sort
set_option linter.unusedVariables false

/-- A world further on: it has drawn, and blocks were laid behind. -/
structure Grows (w w' : World) : Prop where
  ex : ∃ q os, w' = grow (w.drewN q) os
theorem Grows.refl (w : World) : Grows w w := ⟨0, #[], by rw [grow_empty]; rfl⟩
theorem Grows.drew (w : World) : Grows w w.drew := ⟨1, #[], by rw [grow_empty]; rfl⟩
theorem Grows.alloc (w : World) (o : Obj) : Grows w (w.alloc o) := ⟨0, #[o], by rw [show w.drewN 0 = w from rfl, alloc_eq_grow]⟩
theorem Grows.trans {a b c : World} (h : Grows a b) (k : Grows b c) : Grows a c := by
  obtain ⟨q, os, rfl⟩ := h
  obtain ⟨q', os', rfl⟩ := k
  refine ⟨q + q', os ++ os', ?_⟩
  show grow (grow ((a.drewN q).drewN q') os) os' = _
  rw [grow_grow, World.drewN_drewN]
theorem Grows.below {w w' : World} (h : Grows w w') : Below w.heap.size w w' := by
  obtain ⟨q, os, rfl⟩ := h
  refine ⟨rfl, rfl, rfl, ?_, fun i hi => ?_⟩
  · rw [size_grow]; show w.heap.size ≤ w.heap.size + _; omega
  · rw [heap_grow_old _ _ (by show i < w.heap.size; omega)]; rfl
theorem modify_app {α : Type} (h os : Array α) (b : Nat) (f : α → α) (hb : h.size ≤ b) : (h ++ os).modify b f = h ++ os.modify (b - h.size) f := by
  apply Array.ext_getElem?
  intro j
  rw [Array.getElem?_modify]
  by_cases hj : j < h.size
  · rw [Array.getElem?_append_left hj, Array.getElem?_append_left hj, if_neg (by omega)]
  · rw [Array.getElem?_append_right (by omega), Array.getElem?_append_right (by omega), Array.getElem?_modify]
    by_cases e : b = j
    · rw [if_pos e, if_pos (by omega)]
    · rw [if_neg e, if_neg (by omega)]
theorem Grows.set {w w' : World} (h : Grows w w') {b i : Nat} (u : Value) (hb : w.heap.size ≤ b) : Grows w (w'.setCell ⟨b, i, none⟩ u) := by
  obtain ⟨q, os, rfl⟩ := h
  obtain ⟨f, hf⟩ : ∃ f, World.setCell (grow (w.drewN q) os) ⟨b, i, none⟩ u = { grow (w.drewN q) os with heap := (grow (w.drewN q) os).heap.modify b f } := ⟨_, rfl⟩
  rw [hf]
  refine ⟨q, os.modify (b - w.heap.size) f, ?_⟩
  unfold grow
  simp only
  rw [modify_app _ _ _ _ (show (w.drewN q).heap.size ≤ b from hb)]
  rfl
theorem gro_below (w : World) (q : Nat) (os : Array Obj) : Below w.heap.size w (Go.Sort.grow (w.drewN q) os) := Grows.below ⟨q, os, rfl⟩
theorem gro_cell {w : World} {a : Addr} {v : Value} (h : w.cell? a = some v) (nq : Nat) (os : Array Obj) : (Go.Sort.grow (w.drewN nq) os).cell? a = some v := by
  rw [(gro_below w nq os).cell (World.block_lt_of_cell? _ _ h), h]
/-- A contract that ends further on, for every world further on. -/
theorem grown_at {f : Nat} {args : Array Value} {r : Ending} {w : World} (h : ∀ w', Calls Try.prog f args w' fun e w'' => e = r ∧ Grows w' w'') (nq : Nat) (os : Array Obj) :
    Calls Try.prog f args (Go.Sort.grow (w.drewN nq) os) fun e w' => e = r ∧ ∃ q os', w' = Go.Sort.grow ((Go.Sort.grow (w.drewN nq) os).drewN q) os' :=
  (h _).mono fun _ _ ⟨he, hw⟩ => ⟨he, hw.ex⟩

end Go.Proofs.Ytmnlkmgpikilbaa
