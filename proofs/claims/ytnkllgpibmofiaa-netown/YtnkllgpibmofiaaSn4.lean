/- What came already: Fresh. -/
import Derived.Test.YtnkllgpibmofiaaSn3
namespace Go.Proofs.Ytnkllgpibmofiaa
open Go.RowKit Go.Maps Go.Sort
set_option linter.unusedVariables false

theorem ROk.kind {w : World} {F : Nat → Prop} {x : Rw} (h : ROk w F x) {i : Nat} (hi : Bk x i) : (i = x.g ∧ ∃ cs fr, w.heap[i]? = some (.cells cs 104 fr)) ∨ (i = x.m ∧ ∃ es c, w.heap[i]? = some (.map es c)) ∨ (x.v.ownBlock = some i ∧ ∃ cs fr, w.heap[i]? = some (.cells cs 28 fr)) := by
  rcases hi with rfl | rfl | hi
  · exact .inl ⟨rfl, _, _, h.h.b⟩
  · obtain ⟨D, h1, _⟩ := h.m
    obtain ⟨es, c, hc⟩ := map_cell h1
    exact .inr (.inl ⟨rfl, _, _, hc⟩)
  · rcases h.h.o.2 with ⟨h1, _⟩ | ⟨g', cap, cur, h1, _, h3, _⟩
    · rw [h1] at hi; cases hi
    · rw [h1] at hi
      simp only [Value.ownBlock, Option.some.injEq] at hi
      subst hi
      exact .inr (.inr ⟨by rw [h1]; rfl, _, _, h3⟩)
theorem disj {w : World} {F G : Nat → Prop} {x y : Rw} (hx : ROk w F x) (hy : ROk w G y) (ha : Apart x y) {i : Nat} (h1 : Bk x i) (h2 : Bk y i) : False := by
  rcases hx.kind h1 with ⟨e1, cs1, fr1, c1⟩ | ⟨e1, cs1, fr1, c1⟩ | ⟨e1, cs1, fr1, c1⟩ <;> rcases hy.kind h2 with ⟨e2, cs2, fr2, c2⟩ | ⟨e2, cs2, fr2, c2⟩ | ⟨e2, cs2, fr2, c2⟩ <;> rw [c1] at c2
  · exact ha.2.1 (e1.symm.trans e2)
  · cases c2
  · simp only [Option.some.injEq, Obj.cells.injEq] at c2; exact absurd c2.2.1 (by decide)
  · cases c2
  · exact ha.2.2.1 (e1.symm.trans e2)
  · cases c2
  · simp only [Option.some.injEq, Obj.cells.injEq] at c2; exact absurd c2.2.1 (by decide)
  · cases c2
  · exact ha.2.2.2 i e1 e2
theorem SnZ.nbk {w : World} {s K : Nat} {F : Nat → Prop} {most : Int} {mo : Option Nat} {Z : List Rw} (h : SnZ w s F most K mo Z) {x : Rw} (hx : x ∈ Z) : ¬ Bk x s ∧ ∀ m, mo = some m → ¬ Bk x m := by
  have hx1 := (h.e x hx).1
  constructor
  · intro hb
    have hs : w.heap[s]? = _ := h.b
    rcases hx1.kind hb with ⟨e1, cs1, fr1, c1⟩ | ⟨e1, cs1, fr1, c1⟩ | ⟨e1, cs1, fr1, c1⟩ <;> rw [hs] at c1
    · simp only [Option.some.injEq, Obj.cells.injEq] at c1; exact absurd c1.2.1 (by decide)
    · cases c1
    · simp only [Option.some.injEq, Obj.cells.injEq] at c1; exact absurd c1.2.1 (by decide)
  · intro m hm hb
    obtain ⟨es, c, hc⟩ : ∃ es c, w.heap[m]? = some (.map es c) := by
      rcases h.m with ⟨e1, _⟩ | ⟨m', D', e1, hm', _⟩
      · rw [e1] at hm; cases hm
      · rw [e1] at hm
        injection hm with hm
        subst hm
        exact map_cell hm'
    rcases hx1.kind hb with ⟨e1, cs1, fr1, c1⟩ | ⟨e1, cs1, fr1, c1⟩ | ⟨e1, cs1, fr1, c1⟩ <;> rw [hc] at c1
    · cases c1
    · exact h.om x hx m hm e1.symm
    · cases c1
/-- One row has changed. -/
theorem SnZ.turn {w w' : World} {s K : Nat} {F F' : Nat → Prop} {most : Int} {mo : Option Nat} {x x' : Rw} {R : List Rw} (h : SnZ w s F most K mo (x :: R)) (hfr : x'.fr = x.fr) (hg : x'.g = x.g) (hm : x'.m = x.m) (hF : ∀ i, F i → F' i) (hF' : ∀ i, F' i → i < w'.heap.size)
    (hr : ROk w' F' x') (hf : Fr (Bk x) w w') (hv : ∀ r, x'.v.ownBlock = some r → x.v.ownBlock = some r ∨ w.heap.size ≤ r) (hl : x'.ids.length ≤ K) : SnZ w' s F' most K mo (x' :: R) := by
  have hx1 := (h.e x (List.mem_cons_self ..)).1
  have hap := List.pairwise_cons.1 h.ap
  have hnb := h.nbk (List.mem_cons_self ..)
  refine ⟨?_, hF _ h.f, ?_, fun m e => hF _ (h.fm m e), ?_, ?_, ?_, ?_, hF'⟩
  · have := h.b
    unfold BxA at this ⊢
    rw [hf.block s h.b.lt hnb.1]
    exact this
  · rcases h.m with ⟨_, e2⟩ | ⟨m, D, e1, h2, h3⟩
    · cases e2
    · refine .inr ⟨m, D, e1, map_frame h2 (hf.block m h2.lt (hnb.2 m e1)), fun e he z => ?_, fun f => ?_, ?_⟩
      · rcases List.mem_cons.1 he with rfl | he
        · rw [hfr, hg]; exact h3.at' x (List.mem_cons_self ..) z
        · exact h3.at' e (List.mem_cons_of_mem _ he) z
      · rw [h3.has f]; simp [hfr]
      · rw [h3.size]; simp
  · intro y hy
    rcases List.mem_cons.1 hy with rfl | hy
    · exact ⟨hr, hl⟩
    · have hy1 := h.e y (List.mem_cons_of_mem _ hy)
      refine ⟨(hy1.1.own fun i hi => hf.block i (h.lt i (hy1.1.bk hi)) fun hb => disj hx1 hy1.1 (hap.1 y hy) hb hi).mono hF, hy1.2⟩
  · refine List.pairwise_cons.2 ⟨fun y hy => ?_, hap.2⟩
    obtain ⟨a1, a2, a3, a4⟩ := hap.1 y hy
    refine ⟨by rw [hfr]; exact a1, by rw [hg]; exact a2, by rw [hm]; exact a3, fun r h1 h2 => ?_⟩
    rcases hv r h1 with h3 | h3
    · exact a4 r h3 h2
    · have := (World.ownsRow.lt (h.e y (List.mem_cons_of_mem _ hy)).1.h.o r h2).2
      omega
  · exact h.few
  · intro y hy m e
    rcases List.mem_cons.1 hy with rfl | hy
    · rw [hm]; exact h.om x (List.mem_cons_self ..) m e
    · exact h.om y (List.mem_cons_of_mem _ hy) m e
/-- What becomes of the Ids of one sender. -/
def Chg (most : Int) (l : List Nat) (id : Nat) (b : Bool) (l' : List Nat) : Prop :=
  (b = false ∧ l' = l ∧ (id ∈ l ∨ (max most 1 ≤ (l.length : Int) ∧ ∃ m ∈ l, (∀ y ∈ l, m ≤ y) ∧ id < m))) ∨
  (b = true ∧ id ∉ l ∧ ¬ max most 1 ≤ (l.length : Int) ∧ l'.Perm (l ++ [id])) ∨
  (b = true ∧ id ∉ l ∧ max most 1 ≤ (l.length : Int) ∧ ∃ m ∈ l, (∀ y ∈ l, m ≤ y) ∧ ¬ id < m ∧ (l' ++ [m]).Perm (l ++ [id]))
structure FrO (w w' : World) (s : Nat) (F : Nat → Prop) (most : Int) (K : Nat) (Z : List Rw) (f : Int) (id : Nat) (e : Ending) : Prop where
  ex : ∃ (b : Bool) (x x' : Rw) (R : List Rw) (F' : Nat → Prop) (mo' : Option Nat), e = .returned (.bool b) ∧ x.fr = f ∧ x'.fr = f ∧ SnZ w' s F' most (K + 2) mo' (x' :: R) ∧ (Z.Perm (x :: R) ∨ (x.ids = [] ∧ R = Z ∧ ∀ y ∈ Z, y.fr ≠ f)) ∧ Chg most x.ids id b x'.ids ∧ Fr F w w' ∧ (∀ i, F' i → F i ∨ w.heap.size ≤ i)
end Go.Proofs.Ytnkllgpibmofiaa
