/- The writer: what it has so far, and its plain calls. -/
import Derived.Test.YtpdlioidiobbbaaRefNums
import Derived.Test.YtpdlioidiobbbaaFm0
namespace Go.Proofs.Ytpdlioidiobbbaa
open Go.RowKit

abbrev Bs := List UInt8
/-- No block has changed, but those that hold bytes. -/
def KT (w w' : World) : Prop := w.heap.size ≤ w'.heap.size ∧ ∀ i, i < w.heap.size → (∀ cs fr, w.heap[i]? ≠ some (.cells cs 5 fr)) → w'.heap[i]? = w.heap[i]?
theorem KT.refl (w : World) : KT w w := ⟨Nat.le_refl _, fun _ _ _ => rfl⟩
theorem KT.trans {a b c : World} (h : KT a b) (k : KT b c) : KT a c :=
  ⟨Nat.le_trans h.1 k.1, fun i hi ht => by
    have e := h.2 i hi ht
    rw [k.2 i (Nat.lt_of_lt_of_le hi h.1) (by rw [e]; exact ht), e]⟩
theorem KT.of_grown {w w1 : World} {base : Nat} {u : Value} {l : List UInt8} (h : Owns w base u l) (hg : w.grownBy w1 u.ownBlock) : KT w w1 := by
  refine ⟨hg.size, fun i hi ht => hg.block i hi fun e => ?_⟩
  rcases h.2 with ⟨rfl, _⟩ | ⟨g, cap, cur, rfl, hb, hcur, _⟩
  · cases e
  · have : i = g := by simpa [Value.ownBlock] using e
    subst this
    exact ht _ _ hcur
theorem KT.alloc (w : World) (o : Obj) : KT w (w.alloc o) := ⟨by simp, fun i hi _ => (Fi.Grows.alloc w o).below.block i hi⟩
/-- What a writer has behind something more: none, if that is too much. -/
def put : Option Bs → Option Bs → Option Bs
  | some l, some x => if l.length + x.length ≤ 1048576 then some (l ++ x) else none
  | _, _ => none
def cat : Option Bs → Option Bs → Option Bs
  | some l, some x => some (l ++ x)
  | _, _ => none
/-- A writer at the block p, that was made when all else that counts was there (W0). -/
structure Wr (W0 : World) (p : Nat) (w : World) (s : Option Bs) : Prop where
  hp : p = W0.heap.size
  b : Below W0.heap.size W0 w
  z : p < w.heap.size
  ex : ∃ v l, w.cell? ⟨p, 0, none⟩ = some v ∧ w.cell? ⟨p, 1, none⟩ = some (.bool s.isNone) ∧ w.frozen? ⟨p, 0, none⟩ = false ∧ w.frozen? ⟨p, 1, none⟩ = false ∧ Owns w (p + 1) v l ∧ ∀ x, s = some x → l = x ∧ x.length ≤ 1048576
theorem Wr.up {W0 w w' : World} {p : Nat} {s : Option Bs} (h : Wr W0 p w s) (hb : Below w.heap.size w w') : Wr W0 p w' s := by
  obtain ⟨hp, b, z, v, l, c0, c1, f0, f1, o, hx⟩ := h
  refine ⟨hp, b.trans (hb.mono b.size), Nat.lt_of_lt_of_le z hb.size, v, l, ?_, ?_, ?_, ?_, o.below hb, hx⟩
  · rw [hb.cell (by exact z)]; exact c0
  · rw [hb.cell (by exact z)]; exact c1
  · rw [hb.frozen (by exact z)]; exact f0
  · rw [hb.frozen (by exact z)]; exact f1
theorem Wr.alloc {W0 w : World} {p : Nat} {s : Option Bs} (h : Wr W0 p w s) (o : Obj) : Wr W0 p (w.alloc o) s := h.up (Fi.Grows.alloc w o).below
/-- No block has changed, but the writer's, and those that hold bytes. -/
def KP (p : Nat) (w w' : World) : Prop := w.heap.size ≤ w'.heap.size ∧ ∀ i, i < w.heap.size → i ≠ p → (∀ cs fr, w.heap[i]? ≠ some (.cells cs 5 fr)) → w'.heap[i]? = w.heap[i]?
theorem KP.refl (p : Nat) (w : World) : KP p w w := ⟨Nat.le_refl _, fun _ _ _ _ => rfl⟩
theorem KP.trans {p : Nat} {a b c : World} (h : KP p a b) (k : KP p b c) : KP p a c :=
  ⟨Nat.le_trans h.1 k.1, fun i hi hp ht => by
    have e := h.2 i hi hp ht
    rw [k.2 i (Nat.lt_of_lt_of_le hi h.1) hp (by rw [e]; exact ht), e]⟩
theorem KT.kp {w w' : World} (h : KT w w') (p : Nat) : KP p w w' := ⟨h.1, fun i hi _ ht => h.2 i hi ht⟩
theorem KP.alloc (p : Nat) (w : World) (o : Obj) : KP p w (w.alloc o) := (KT.alloc w o).kp p
theorem KP.set (p o : Nat) (w : World) (v : Value) : KP p w (w.setCell ⟨p, o, none⟩ v) := ⟨by simp, fun i _ hp _ => Below.heap_setCell w _ v i hp⟩
/-- A box of one cell. -/
def Bx (w : World) (g : Nat) (t : TypeId) (v : Value) : Prop := w.heap[g]? = some (.cells #[v] t (0, 0))
theorem Bx.kp {w w' : World} {p g : Nat} {t : TypeId} {v : Value} (h : Bx w g t v) (hk : KP p w w') (hg : g ≠ p) (ht : t ≠ 5) : Bx w' g t v := by
  unfold Bx at h ⊢
  rw [hk.2 g (Array.getElem?_eq_some_iff.1 h).1 hg (fun cs fr e => ht (by rw [h] at e; simp at e; exact e.2.1)), h]
theorem Bx.new (w : World) (t : TypeId) (v : Value) : Bx (w.alloc (.cells #[v] t)) w.heap.size t v := heap_alloc_new w _
theorem Bx.cell {w : World} {g : Nat} {t : TypeId} {v : Value} (h : Bx w g t v) : w.cell? ⟨g, 0, none⟩ = some v := by
  unfold Bx at h
  simp [World.cell?, h]
/-- A number's bytes. -/
def ei (k : Int) : Bs := Num.uv (Lib.zigzag k)
/-- Whether: one byte. -/
def eb (b : Bool) : Bs := if b then [1] else [0]
/-- A text's bytes. -/
def et (s : Fi.Str) : Bs := Num.uv s.length ++ s
/-- Over, whatever it was. -/
theorem Wr.over {W0 w : World} {p : Nat} {s : Option Bs} (h : Wr W0 p w s) : Wr W0 p (w.setCell ⟨p, 1, none⟩ (.bool true)) none := by
  obtain ⟨hp, b, z, v, l, c0, c1, f0, f1, o, hx⟩ := h
  refine ⟨hp, b.setCell (p := ⟨p, 1, none⟩) (Nat.le_of_eq hp.symm) _, by simpa using z, v, l, ?_, World.cell?_setCell_same _ _ _ c1, by simpa using f0, by simpa using f1, ownsRow_setCell_below o (a := ⟨p, 1, none⟩) (Nat.lt_succ_self p) _, fun x h => by cases h⟩
  rw [World.cell?_setCell_other _ _ _ _ (by simp)]; exact c0
end Go.Proofs.Ytpdlioidiobbbaa
