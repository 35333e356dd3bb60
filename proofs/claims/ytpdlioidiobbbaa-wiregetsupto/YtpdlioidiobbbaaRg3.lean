/- Windows of memory, boxes that are filled, rows that the program's reader got. -/
import Derived.Test.YtpdlioidiobbbaaRg2
namespace Go.Proofs.Ytpdlioidiobbbaa
open Go.RowKit

/-- It hangs on the blocks from n on alone. -/
def Win (n : Nat) (w : World) (φ : World → Prop) : Prop := ∀ w', w.heap.size ≤ w'.heap.size → (∀ i, n ≤ i → i < w.heap.size → w'.heap[i]? = w.heap[i]?) → φ w'
theorem Win.now {n : Nat} {w : World} {φ : World → Prop} (h : Win n w φ) : φ w := h w (Nat.le_refl _) fun _ _ _ => rfl
theorem Win.up {n : Nat} {w w' : World} {φ : World → Prop} (h : Win n w φ) (hz : w.heap.size ≤ w'.heap.size) (hk : ∀ i, n ≤ i → i < w.heap.size → w'.heap[i]? = w.heap[i]?) : Win n w' φ := fun w'' hz' hk' => h w'' (Nat.le_trans hz hz') fun i h1 h2 => (hk' i h1 (Nat.lt_of_lt_of_le h2 hz)).trans (hk i h1 h2)
theorem Win.mono {m n : Nat} {w : World} {φ : World → Prop} (h : Win n w φ) (hm : m ≤ n) : Win m w φ := fun w' hz hk => h w' hz fun i h1 h2 => hk i (Nat.le_trans hm h1) h2
theorem Win.imp {n : Nat} {w : World} {φ ψ : World → Prop} (h : Win n w φ) (hi : ∀ w, φ w → ψ w) : Win n w ψ := fun w' hz hk => hi w' (h w' hz hk)
theorem Win.grow {n R : Nat} {w w' : World} {φ : World → Prop} (h : Win n w φ) (hg : w.grownBy w' (some R)) (hR : R < n) : Win n w' φ := h.up hg.size fun i h1 h2 => hg.block i h2 fun e => by simp only [Option.some.injEq] at e; omega
theorem Win.both {n : Nat} {w : World} {φ ψ : World → Prop} (h : Win n w φ) (k : Win n w ψ) : Win n w fun w => φ w ∧ ψ w := fun w' hz hk => ⟨h w' hz hk, k w' hz hk⟩
theorem Win.all {α : Type} {n : Nat} {w : World} {xs : List α} {φ : α → World → Prop} (h : ∀ x ∈ xs, Win n w (φ x)) : Win n w fun w => ∀ x ∈ xs, φ x w := fun w' hz hk x hx => h x hx w' hz hk
theorem own_win {N e k n : Nat} {w : World} {v : Value} {xs : List Value} (h : w.ownsRow N e k v n xs) : Win N w fun w => w.ownsRow N e k v n xs := fun w' _ hk => by
  refine ⟨h.1, ?_⟩
  rcases h.2 with h2 | ⟨g, cap, cur, rfl, h3, h4, h5⟩
  · exact .inl h2
  · exact .inr ⟨g, cap, cur, rfl, h3, by rw [hk g h3 (Array.getElem?_eq_some_iff.1 h4).1]; exact h4, h5⟩
theorem own_mono {M N e k n : Nat} {w : World} {v : Value} {xs : List Value} (h : w.ownsRow N e k v n xs) (hm : M ≤ N) : w.ownsRow M e k v n xs := by
  refine ⟨h.1, ?_⟩
  rcases h.2 with h2 | ⟨g, cap, cur, rfl, h3, h4, h5⟩
  · exact .inl h2
  · exact .inr ⟨g, cap, cur, rfl, Nat.le_trans hm h3, h4, h5⟩
theorem own_sl {N e k n : Nat} {w : World} {v : Value} {xs : List Value} (h : w.ownsRow N e k v n xs) : ∃ a n c, v = .slice a n c := by
  rcases h.2 with ⟨rfl, _⟩ | ⟨g, cap, cur, rfl, _⟩
  · exact ⟨_, _, _, rfl⟩
  · exact ⟨_, _, _, rfl⟩
theorem BxA.set {w : World} {g : Nat} {t : TypeId} {cs : Array Value} (h : BxA w g t cs) (i : Nat) (u : Value) : BxA (w.setCell ⟨g, i, none⟩ u) g t (cs.setIfInBounds i u) := heap_setCell_same w g i _ t u h
theorem BxA.lt {w : World} {g : Nat} {t : TypeId} {cs : Array Value} (h : BxA w g t cs) : g < w.heap.size := (Array.getElem?_eq_some_iff.1 h).1
theorem BxA.free {w : World} {g : Nat} {t : TypeId} {cs : Array Value} (h : BxA w g t cs) (i : Nat) : w.frozen? ⟨g, i, none⟩ = false := frozen_of_row w g i _ t h
theorem BxA.grow {w w' : World} {g R : Nat} {t : TypeId} {cs : Array Value} (h : BxA w g t cs) (hg : w.grownBy w' (some R)) (hR : g ≠ R) : BxA w' g t cs := by
  unfold BxA at h ⊢
  rw [hg.block _ (Array.getElem?_eq_some_iff.1 h).1 (fun e => hR (by simpa using e))]
  exact h
theorem BxA.ktt {w w' : World} {g : Nat} {t : TypeId} {cs : Array Value} (h : BxA w g t cs) (hg : w.grownBy w' (some g)) : KTT [t] w w' :=
  KTT.of_grown hg fun g' cs' t' fr hr hb => by
    simp only [Option.some.injEq] at hr
    subst hr
    rw [show w.heap[g]? = _ from h] at hb
    cases hb
    simp
/-- A box that was made behind w is filled: nothing else has changed. -/
theorem fill_grown {w w1 Y : World} {R b : Nat} (h : w.grownBy w1 (some R)) (k : w1.grownBy Y (some b)) (hb : w.heap.size ≤ b) : w.grownBy Y (some R) :=
  ⟨k.os.trans h.os, k.tape.trans h.tape, k.output.trans h.output, Nat.le_trans h.size k.size, fun i hi hr => (k.block i (Nat.lt_of_lt_of_le hi h.size) (fun e => by simp only [Option.some.injEq] at e; omega)).trans (h.block i hi hr)⟩
theorem grown_above {w Y : World} {b n : Nat} (k : w.grownBy Y (some b)) (hn : n ≤ b) (hb : b < w.heap.size) : Below n w Y :=
  ⟨k.os, k.tape, k.output, k.size, fun i hi => k.block i (by omega) (fun e => by simp only [Option.some.injEq] at e; omega)⟩
structure PtIn (N : Nat) (w : World) (x : Pt) : Prop where
  n : InU x.n
  v : In64 x.v
  r : w.ownsRow N 9 1 x.tv x.ts.length (x.ts.flatMap cl_str)
  t : ∀ t ∈ x.ts, t.length ≤ 1048576
theorem PtIn.keep {N : Nat} {T : List TypeId} {w w' : World} {x : Pt} (h : PtIn N w x) (k : KTT T w w') (ht : 9 ∉ T) : PtIn N w' x := ⟨h.n, h.v, k.own h.r ht, h.t⟩
theorem PtIn.mono {M N : Nat} {w : World} {x : Pt} (h : PtIn N w x) (hm : M ≤ N) : PtIn M w x := ⟨h.n, h.v, own_mono h.r hm, h.t⟩
theorem txs_of {ts : List Fi.Str} (h : ∀ t ∈ ts, t.length ≤ 1048576) : Txs ts := fun t ht => Nat.le_trans (h t ht) (by decide)
theorem PtIn.ok {N : Nat} {w : World} {x : Pt} (h : PtIn N w x) : x.Ok w := ⟨h.n, h.v, Fi.RdsK.of_own h.r, txs_of h.t⟩
theorem PtIn.win {N : Nat} {w : World} {x : Pt} (h : PtIn N w x) : Win N w fun w => PtIn N w x := (own_win h.r).imp fun _ r => ⟨h.n, h.v, r, h.t⟩
structure GpIn (N : Nat) (w : World) (x : Gp) : Prop where
  s : In64 x.s
  b : In64 x.b
  r : w.ownsRow N 9 1 x.dv x.ds.length (x.ds.flatMap cl_str)
  t : ∀ t ∈ x.ds, t.length ≤ 1048576
  p : w.ownsRow N 87 3 x.pv x.ps.length (x.ps.flatMap cl_prt)
  o : ∀ y ∈ x.ps, PtIn N w y
theorem GpIn.keep {N : Nat} {T : List TypeId} {w w' : World} {x : Gp} (h : GpIn N w x) (k : KTT T w w') (ht : 9 ∉ T) (hp : 87 ∉ T) : GpIn N w' x := ⟨h.s, h.b, k.own h.r ht, h.t, k.own h.p hp, fun y hy => (h.o y hy).keep k ht⟩
theorem GpIn.mono {M N : Nat} {w : World} {x : Gp} (h : GpIn N w x) (hm : M ≤ N) : GpIn M w x := ⟨h.s, h.b, own_mono h.r hm, h.t, own_mono h.p hm, fun y hy => (h.o y hy).mono hm⟩
theorem GpIn.ok {N : Nat} {w : World} {x : Gp} (h : GpIn N w x) : x.Ok w := ⟨h.s, h.b, Fi.RdsK.of_own h.r, txs_of h.t, Fi.RdsK.of_own h.p, fun y hy => (h.o y hy).ok⟩
theorem GpIn.win {N : Nat} {w : World} {x : Gp} (h : GpIn N w x) : Win N w fun w => GpIn N w x := (((own_win h.r).both (own_win h.p)).both (Win.all fun y hy => (h.o y hy).win)).imp fun _ r => ⟨h.s, h.b, r.1.1, h.t, r.1.2, r.2⟩
theorem gtxts (B R : Nat) (l : Bs) (w : World) (p e : Nat) (hlb : l.length ≤ 1048576) (h : PS B w R l p e) :
    Calls Try.prog 95 #[.pointer (some ⟨R, 0, none⟩), .func (.func 96) #[.pointer (some ⟨R, 0, none⟩)] #[]] w fun er w' => ∃ (v : Value) (xs : List (Fi.Str)), er = .returned v ∧ w'.ownsRow w.heap.size 9 1 v xs.length (xs.flatMap cl_str) ∧ (∀ x ∈ xs, x.length ≤ 1048576) ∧ Got B R l w w' (p, e) (skTxt l) (Num.uv xs.length ++ xs.flatMap et) :=
  rl_str B R l w p e _ et (fun w' x => x.length ≤ 1048576) hlb (fwd_t l) h (fun _ _ _ h _ => h) fun w1 p1 e1 hk h1 => (gtext B R l w1 p1 e1 hlb h1).mono fun ev w' hh => by
    obtain ⟨x, e1, o1, g1⟩ := hh
    exact ⟨x, e1, o1, g1⟩
theorem gi64s (B R : Nat) (l : Bs) (w : World) (p e : Nat) (hlb : l.length ≤ 1048576) (h : PS B w R l p e) :
    Calls Try.prog 97 #[.pointer (some ⟨R, 0, none⟩), .func (.func 93) #[.pointer (some ⟨R, 0, none⟩)] #[]] w fun er w' => ∃ (v : Value) (xs : List (Int)), er = .returned v ∧ w'.ownsRow w.heap.size 2 1 v xs.length (xs.flatMap cl_i64) ∧ (∀ x ∈ xs, In64 x) ∧ Got B R l w w' (p, e) (skL l (skU l)) (Num.uv xs.length ++ xs.flatMap ei) :=
  rl_i64 B R l w p e _ ei (fun w' x => In64 x) hlb (fwd_u l) h (fun _ _ _ h _ => h) fun w1 p1 e1 hk h1 => (gint B R l w1 p1 e1 h1).mono fun ev w' hh => by
    obtain ⟨x, e1, o1, g1⟩ := hh
    exact ⟨x, e1, o1, g1⟩
theorem gints (B R : Nat) (l : Bs) (w : World) (p e : Nat) (hlb : l.length ≤ 1048576) (h : PS B w R l p e) :
    Calls Try.prog 102 #[.pointer (some ⟨R, 0, none⟩), .func (.func 37) #[.pointer (some ⟨R, 0, none⟩)] #[]] w fun er w' => ∃ (v : Value) (xs : List (Int)), er = .returned v ∧ w'.ownsRow w.heap.size 3 1 v xs.length (xs.flatMap cl_int) ∧ (∀ x ∈ xs, In64 x) ∧ Got B R l w w' (p, e) (skL l (skU l)) (Num.uv xs.length ++ xs.flatMap ei) :=
  rl_int B R l w p e _ ei (fun w' x => In64 x) hlb (fwd_u l) h (fun _ _ _ h _ => h) fun w1 p1 e1 hk h1 => (gwhole B R l w1 p1 e1 h1).mono fun ev w' hh => by
    obtain ⟨x, e1, o1, g1⟩ := hh
    exact ⟨x, e1, o1, g1⟩
theorem gaggs (B R : Nat) (l : Bs) (w : World) (p e : Nat) (hlb : l.length ≤ 1048576) (h : PS B w R l p e) :
    Calls Try.prog 103 #[.pointer (some ⟨R, 0, none⟩), .func (.func 104) #[.pointer (some ⟨R, 0, none⟩)] #[]] w fun er w' => ∃ (v : Value) (xs : List (Int × Int)), er = .returned v ∧ w'.ownsRow w.heap.size 128 2 v xs.length (xs.flatMap cl_agg) ∧ (∀ x ∈ xs, In64 x.1 ∧ In64 x.2) ∧ Got B R l w w' (p, e) (skL l (skAgg l)) (Num.uv xs.length ++ xs.flatMap r_agg) :=
  rl_agg B R l w p e _ r_agg (fun w' x => In64 x.1 ∧ In64 x.2) hlb (fwd_agg l) h (fun _ _ _ h _ => h) fun w1 p1 e1 hk h1 => (gagg B R l w1 p1 e1 hlb h1).mono fun ev w' hh => by
    obtain ⟨x, e1, o1, g1⟩ := hh
    exact ⟨x, e1, o1, g1⟩
theorem gsegs (B R : Nat) (l : Bs) (w : World) (p e : Nat) (hlb : l.length ≤ 1048576) (h : PS B w R l p e) :
    Calls Try.prog 52 #[.pointer (some ⟨R, 0, none⟩), .func (.func 53) #[.pointer (some ⟨R, 0, none⟩)] #[]] w fun er w' => ∃ (v : Value) (xs : List (Sg)), er = .returned v ∧ w'.ownsRow w.heap.size 38 5 v xs.length (xs.flatMap cl_seg) ∧ (∀ x ∈ xs, x.In) ∧ Got B R l w w' (p, e) (skL l (skSeg l)) (Num.uv xs.length ++ xs.flatMap r_seg) :=
  rl_seg B R l w p e _ r_seg (fun w' x => x.In) hlb (fwd_seg l) h (fun _ _ _ h _ => h) fun w1 p1 e1 hk h1 => (gseg B R l w1 p1 e1 hlb h1).mono fun ev w' hh => by
    obtain ⟨x, e1, o1, g1⟩ := hh
    exact ⟨x, e1, o1, g1⟩
end Go.Proofs.Ytpdlioidiobbbaa
