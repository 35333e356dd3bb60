/- What came already: the row of a sender. -/
import Derived.Test.YtnkllgpibmofiaaSn1
namespace Go.Proofs.Ytnkllgpibmofiaa
open Go.RowKit Go.Maps Go.Sort
set_option linter.unusedVariables false

theorem zeroP (w : World) : (zeroValue 99).run Try.prog w = .ok (.pointer none) w := Try.zeroValue99 w
theorem pel_zero : pel (.pointer none) = some (.nil, []) := rfl
theorem bx_alloc {w : World} {g : Nat} {t : TypeId} {cs : Array Value} (h : BxA w g t cs) (o : Obj) : BxA (w.alloc o) g t cs := by
  unfold BxA at h ⊢
  rw [Below.heap_alloc w o g (Array.getElem?_eq_some_iff.1 h).1]
  exact h
theorem bx_grown {w w' : World} {g : Nat} {t : TypeId} {cs : Array Value} {r : Option Nat} (h : BxA w g t cs) (hg : w.grownBy w' r) (hn : some g ≠ r) : BxA w' g t cs := by
  unfold BxA at h ⊢
  rw [hg.block g (Array.getElem?_eq_some_iff.1 h).1 hn]
  exact h
theorem bx_ne_map {P : Program} {k : TypeId} {R : Value → Option (DataW Unit × List MemPlace)} {w : World} {g m n : Nat} {t : TypeId} {cs : Array Value} {D : DataW Unit} (h : BxA w g t cs) (hm : w.ownsMap P k R m n D) : some g ≠ some m := fun e => by
  injection e with e
  obtain ⟨es, clock, hc⟩ := map_cell hm
  unfold BxA at h
  rw [e, hc] at h
  cases h
/-- The state stands in a map, and a row is laid for a new sender. -/
theorem rowOf_new {W1 w3 : World} {s K m : Nat} {F1 : Nat → Prop} {most f : Int} {Z : List Rw} {D : DataW Unit} {n : Nat} (h : SnZ W1 s F1 most K (some m) Z) (hd : MR D Z) (hno : ∀ x ∈ Z, x.fr ≠ f) (hf : B64 f)
    (ho : w3.ownsMap Try.prog 3 pel m n (D.put (.int .i64 f) (.lit (.int .i64 ((W1.heap.size + 1 : Nat) : Int)))))
    (hg : ((W1.alloc (.map #[] 0)).alloc (.cells #[.map (some W1.heap.size), .slice none 0 0] 104)).grownBy w3 (some m)) (hD : Tidy D) (hb : BxA w3 s 98 #[.int .i64 most, .map (some m)]) (hK : K < 1000000) :
    SnZ w3 s (fun i => F1 i ∨ i = W1.heap.size ∨ i = W1.heap.size + 1) most (K + 1) (some m) (⟨f, W1.heap.size + 1, W1.heap.size, .slice none 0 0, []⟩ :: Z) := by
  have hmlt : m < W1.heap.size := h.lt m (h.fm m rfl)
  have hlt : ∀ i, i < W1.heap.size → i ≠ m → w3.heap[i]? = W1.heap[i]? := fun i hi hn => by
    rw [hg.block i (by simp; omega) (fun e => hn (by injection e)), Below.heap_alloc _ _ i (by simp; omega), Below.heap_alloc _ _ i hi]
  have e1 : w3.heap[W1.heap.size]? = some (.map #[] 0) := by
    rw [hg.block _ (by simp; omega) (fun e => by injection e with e; omega), Below.heap_alloc _ _ _ (by simp)]
    show (W1.heap.push _)[W1.heap.size]? = _
    simp
  have e2 : w3.heap[W1.heap.size + 1]? = some (.cells #[.map (some W1.heap.size), .slice none 0 0] 104 (0, 0)) := by
    rw [hg.block _ (by simp) (fun e => by injection e with e; omega)]
    have h2 := BxA.new (W1.alloc (.map #[] 0)) 104 #[.map (some W1.heap.size), .slice none 0 0]
    unfold BxA at h2
    rw [show (W1.alloc (.map #[] 0)).heap.size = W1.heap.size + 1 by simp] at h2
    exact h2
  have hsz : W1.heap.size + 2 ≤ w3.heap.size := by have := hg.size; simp at this; omega
  obtain ⟨es, clock, hme⟩ : ∃ es clock, W1.heap[m]? = some (.map es clock) := by
    rcases h.m with ⟨e1, _⟩ | ⟨m', D', e1, hm', _⟩
    · cases e1
    · injection e1 with e1
      subst e1
      exact map_cell hm'
  have hold : ∀ x ∈ Z, ROk w3 F1 x := fun x hx => by
    have hx1 := (h.e x hx).1
    refine hx1.own fun i hi => hlt i (h.lt i (hx1.bk hi)) fun e => ?_
    rcases hx1.cells hi with e1 | ⟨cs, t, fr, hc⟩
    · exact h.om x hx m rfl (e1 ▸ e)
    · rw [e, hme] at hc
      cases hc
  have hnew : ROk w3 (fun i => F1 i ∨ i = W1.heap.size ∨ i = W1.heap.size + 1) ⟨f, W1.heap.size + 1, W1.heap.size, .slice none 0 0, []⟩ := by
    refine ⟨⟨e2, ⟨rfl, .inl ⟨rfl, rfl⟩⟩⟩, ⟨.map [], ?_, MI.nil⟩, Hp.nil, List.nodup_nil, (fun _ h => by cases h), .inr (.inr rfl), .inr (.inl rfl), (fun _ h => by cases h), hf⟩
    have h0 := World.ownsMap_made W1 Try.prog 28 (unitElem (H := Unit))
    refine map_frame h0 ?_
    rw [e1]
    symm
    show (W1.heap.push _)[W1.heap.size]? = _
    simp
  refine ⟨hb, .inl h.f, .inr ⟨m, _, rfl, ?_, hd.add hD ⟨f, W1.heap.size + 1, W1.heap.size, .slice none 0 0, []⟩ hno⟩, fun m' e => .inl (h.fm m' e), ?_, ?_, ?_, ?_, ?_⟩
  · have := tight ho
    rw [(hd.add hD ⟨f, W1.heap.size + 1, W1.heap.size, .slice none 0 0, []⟩ hno).size] at this
    exact this
  · intro x hx
    rcases List.mem_cons.1 hx with rfl | hx
    · exact ⟨hnew, Nat.zero_le _⟩
    · exact ⟨(hold x hx).mono fun i h => .inl h, Nat.le_succ_of_le (h.e x hx).2⟩
  · refine List.pairwise_cons.2 ⟨fun y hy => ?_, h.ap⟩
    have hy1 := (h.e y hy).1
    have l1 := h.lt _ hy1.fg
    have l2 := h.lt _ hy1.fm
    exact ⟨(hno y hy).symm, fun e => by simp at e; omega, fun e => by simp at e; omega, fun r hr => by cases hr⟩
  · simp only [List.length_cons]; have := h.few; omega
  · intro x hx m' e
    injection e with e
    subst e
    rcases List.mem_cons.1 hx with rfl | hx
    · show W1.heap.size ≠ m
      omega
    · exact h.om x hx m rfl
  · intro i hi
    rcases hi with hi | hi | hi
    · have := h.lt i hi; omega
    · omega
    · omega
end Go.Proofs.Ytnkllgpibmofiaa
