/- What each closure of Get does to the message's box. -/
import Derived.Test.YtpdlioidiobbbaaRg8
import Derived.Test.YtpdlioidiobbbaaRg4
namespace Go.Proofs.Ytpdlioidiobbbaa
open Go.RowKit Go.Sort

theorem cell_block {w w' : World} {b : Nat} (h : w'.heap[b]? = w.heap[b]?) (j : Nat) : w'.cell? ⟨b, j, none⟩ = w.cell? ⟨b, j, none⟩ := by
  unfold World.cell?
  simp only [h]
theorem frozen_block {w w' : World} {b : Nat} (h : w'.heap[b]? = w.heap[b]?) (j : Nat) : w'.frozen? ⟨b, j, none⟩ = w.frozen? ⟨b, j, none⟩ := by
  unfold World.frozen?
  simp only [h]
theorem there_block {w w' : World} {b o n : Nat} (h : w'.heap[b]? = w.heap[b]?) (k : w.there b o n) : w'.there b o n := fun j hj => by
  rw [cell_block h, frozen_block h]
  exact k j hj
theorem range_block {w w' : World} {b o : Nat} {cs : List Value} (h : w'.heap[b]? = w.heap[b]?) (k : w.rangeAt b o cs) : w'.rangeAt b o cs := fun j v hv => by
  rw [cell_block h]
  exact k j v hv
theorem there_sub {w : World} {b n : Nat} (h : w.there b 0 n) (o m : Nat) (hn : o + m ≤ n) : w.there b o m := fun j hj => by
  have := h (o + j) (by omega)
  rw [Nat.zero_add] at this
  exact this
theorem there_cell {w : World} {b n : Nat} (h : w.there b 0 n) (o : Nat) (hn : o < n) : ∃ u, w.cell? ⟨b, o, none⟩ = some u := by
  have := (h o hn).1
  rw [Nat.zero_add] at this
  exact Option.isSome_iff_exists.1 this
theorem there_free {w : World} {b n : Nat} (h : w.there b 0 n) (o : Nat) (hn : o < n) : w.frozen? ⟨b, o, none⟩ = false := by
  have := (h o hn).2
  rw [Nat.zero_add] at this
  exact this
theorem grown_cells (b : Nat) : ∀ (vs : List Value) (o : Nat) (w : World), w.grownBy (w.setCells b o vs) (some b)
  | [], _, _ => ⟨rfl, rfl, rfl, Nat.le_refl _, fun _ _ _ => rfl⟩
  | v :: r, o, w => grown_trans' grown_setCell (grown_cells b r (o + 1) (w.setCell ⟨b, o, none⟩ v))
/-- A part was read, and stored at o in the box mb. -/
structure Stp (B R : Nat) (l : Bs) (mb : Nat) (w w' : World) (s : Sg2) (f : Sg2 → Sg2) (b : Bs) (o : Nat) (cs : List Value) : Prop where
  ps : PS B w' R l (f s).1 (f s).2
  os : w'.os = w.os
  tape : w'.tape = w.tape
  output : w'.output = w.output
  size : w.heap.size ≤ w'.heap.size
  block : ∀ i, i < w.heap.size → i ≠ R → i ≠ mb → w'.heap[i]? = w.heap[i]?
  th : w'.there mb 0 41
  rg : w'.rangeAt mb o cs
  ap : ∀ o' cs', w.rangeAt mb o' cs' → (o' + cs'.length ≤ o ∨ o + cs.length ≤ o') → w'.rangeAt mb o' cs'
  b : s.2 = 0 → (f s).2 = 0 → b = rd l s.1 (f s).1
theorem Stp.of {B R : Nat} {l : Bs} {mb : Nat} {w w3 w' : World} {s : Sg2} {f : Sg2 → Sg2} {b : Bs} {o : Nat} {cs : List Value} (G : Got B R l w w3 s f b) (ht : w.there mb 0 41) (hm : mb < w.heap.size) (hR : R < mb) (ho : o + cs.length ≤ 41) (hw : w' = w3.setCells mb o cs) : Stp B R l mb w w' s f b o cs := by
  subst hw
  have g := grown_cells mb cs o w3
  have hb : w3.heap[mb]? = w.heap[mb]? := G.g.block mb hm (fun e => by simp only [Option.some.injEq] at e; omega)
  have ht3 := there_block hb ht
  refine ⟨G.ps.keep (grown_above g hR (Nat.lt_of_lt_of_le hm G.g.size)), g.os.trans G.g.os, g.tape.trans G.g.tape, g.output.trans G.g.output, Nat.le_trans G.g.size g.size, fun i h1 h2 h3 => ?_, World.there_setCells ht3 mb o cs, World.rangeAt_setCells_same w3 mb o cs (there_sub ht3 o _ ho), fun o' cs' h1 h2 => World.rangeAt_setCells_apart (range_block hb h1) mb o cs (.inr h2), G.b⟩
  rw [g.block i (Nat.lt_of_lt_of_le h1 G.g.size) (fun e => by simp only [Option.some.injEq] at e; omega)]
  exact G.g.block i h1 (fun e => by simp only [Option.some.injEq] at e; omega)
theorem Stp.win {B R : Nat} {l : Bs} {mb n : Nat} {w w' : World} {s : Sg2} {f : Sg2 → Sg2} {b : Bs} {o : Nat} {cs : List Value} {φ : World → Prop} (h : Stp B R l mb w w' s f b o cs) (k : Win n w φ) (hR : R < n) (hm : mb < n) : Win n w' φ := k.up h.size fun i h1 h2 => h.block i h2 (by omega) (by omega)
theorem Stp.box {B R : Nat} {l : Bs} {mb g : Nat} {t : TypeId} {C : Array Value} {w w' : World} {s : Sg2} {f : Sg2 → Sg2} {b : Bs} {o : Nat} {cs : List Value} (h : Stp B R l mb w w' s f b o cs) (k : BxA w g t C) (hR : g ≠ R) (hm : g ≠ mb) : BxA w' g t C := by
  unfold BxA at k ⊢
  rw [h.block g (Array.getElem?_eq_some_iff.1 k).1 hR hm]
  exact k
theorem Win.cells {n mb o : Nat} {cs : List Value} {w : World} {φ : World → Prop} (k : Win n w φ) (hm : mb < n) : Win n (w.setCells mb o cs) φ := k.grow (grown_cells mb cs o w) hm
end Go.Proofs.Ytpdlioidiobbbaa
