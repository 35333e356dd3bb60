/- Parts of a message that the reference's Get reads, one behind the other. -/
import Derived.Test.YtpdlioidiobbbaaRk6
namespace Go.Proofs.Ytpdlioidiobbbaa
open Go.RowKit Go.Sort

/-- Parts one behind the other, from w0 on. -/
structure AK (B K : Nat) (v : Value) (l : Bs) (mb : Nat) (w0 w' : World) (f : Sg2 → Sg2) (b : Bs) : Prop where
  ps : RP B K v l w' (f (0, 0)).1 (f (0, 0)).2
  os : w'.os = w0.os
  tape : w'.tape = w0.tape
  output : w'.output = w0.output
  size : w0.heap.size ≤ w'.heap.size
  block : ∀ i, i < w0.heap.size → i ≠ K → i ≠ mb → w'.heap[i]? = w0.heap[i]?
  th : w'.there mb 0 41
  b : (f (0, 0)).2 = 0 → b = rd l 0 (f (0, 0)).1
/-- A part was stored at o in the box mb. -/
structure SK (K mb : Nat) (w w' : World) (o : Nat) (cs : List Value) : Prop where
  size : w.heap.size ≤ w'.heap.size
  block : ∀ i, i < w.heap.size → i ≠ K → i ≠ mb → w'.heap[i]? = w.heap[i]?
  rg : w'.rangeAt mb o cs
  ap : ∀ o' cs', w.rangeAt mb o' cs' → (o' + cs'.length ≤ o ∨ o + cs.length ≤ o') → w'.rangeAt mb o' cs'
theorem SK.win {K mb n : Nat} {w w' : World} {o : Nat} {cs : List Value} {φ : World → Prop} (h : SK K mb w w' o cs) (k : Win n w φ) (hR : K < n) (hm : mb < n) : Win n w' φ := k.up h.size fun i h1 h2 => h.block i h2 (by omega) (by omega)
theorem SK.box {K mb g : Nat} {t : TypeId} {C : Array Value} {w w' : World} {o : Nat} {cs : List Value} (h : SK K mb w w' o cs) (k : BxA w g t C) (hR : g ≠ K) (hm : g ≠ mb) : BxA w' g t C := by
  unfold BxA at k ⊢
  rw [h.block g (Array.getElem?_eq_some_iff.1 k).1 hR hm]
  exact k
theorem AK.step {B K : Nat} {v : Value} {l : Bs} {mb : Nat} {w0 w w1 w' : World} {f g : Sg2 → Sg2} {b b2 : Bs} {o : Nat} {cs : List Value} (h : AK B K v l mb w0 w f b) (hf : Fwd l f) (hg : Fwd l g) (k : GK B K v l w w1 ((f (0, 0)).1, (f (0, 0)).2) g b2) (hm : mb < w0.heap.size) (hK : K < mb) (ho : o + cs.length ≤ 41) (hw : w' = w1.setCells mb o cs) :
    AK B K v l mb w0 w' (fun s => g (f s)) (b ++ b2) ∧ SK K mb w w' o cs := by
  subst hw
  have gs := grown_cells mb cs o w1
  have hmw : mb < w.heap.size := Nat.lt_of_lt_of_le hm h.size
  have hb : w1.heap[mb]? = w.heap[mb]? := k.g.block mb hmw (fun e => by simp only [Option.some.injEq] at e; omega)
  have ht1 := there_block hb h.th
  have hbl : ∀ i, i < w.heap.size → i ≠ K → i ≠ mb → (w1.setCells mb o cs).heap[i]? = w.heap[i]? := fun i h1 h2 h3 => by
    rw [gs.block i (Nat.lt_of_lt_of_le h1 k.g.size) (fun e => by simp only [Option.some.injEq] at e; omega)]
    exact k.g.block i h1 (fun e => by simp only [Option.some.injEq] at e; omega)
  have hsz := Nat.le_trans k.g.size gs.size
  refine ⟨⟨k.ps.keep (grown_above gs hK (Nat.lt_of_lt_of_le hmw k.g.size)), gs.os.trans (k.g.os.trans h.os), gs.tape.trans (k.g.tape.trans h.tape), gs.output.trans (k.g.output.trans h.output), Nat.le_trans h.size hsz, fun i h1 h2 h3 => (hbl i (Nat.lt_of_lt_of_le h1 h.size) h2 h3).trans (h.block i h1 h2 h3), World.there_setCells ht1 mb o cs, fun h2 => ?_⟩, hsz, hbl, World.rangeAt_setCells_same w1 mb o cs (there_sub ht1 o _ ho), fun o' cs' h1 h2 => World.rangeAt_setCells_apart (range_block hb h1) mb o cs (.inr h2)⟩
  have h1 : (f (0, 0)).2 = 0 := Classical.byContradiction fun hn => hn (by
    have e := hg.stay (f (0, 0)) hn
    have h3 : (g (f (0, 0))).2 = 0 := h2
    rw [e] at h3
    exact h3)
  have hl0 := hf.le (0, 0) (Nat.zero_le _)
  have e2 := k.b h1 h2
  show b ++ b2 = rd l 0 (g (f (0, 0))).1
  rw [h.b h1, e2]
  exact (rd_app l hl0.1 (hg.le _ hl0.2).1).symm
end Go.Proofs.Ytpdlioidiobbbaa
