/- The contract of same. -/
import Derived.Test.YtlfkhinmncbkcaaEqF
import Derived.Deep.RegionHeld
import Derived.Deep.DeepCutAuto
namespace Go.Proofs.Ytlfkhinmncbkcaa
open Go.RowKit Go.Sort

/-- The cells of a filter lie at the head of a block. -/
def Sx (w : World) (p : Nat) (t : Tr) : Prop := ∀ c u, (#[Value.int .i64 t.k, .int .i64 t.d, t.tv, .int .i64 t.lo, .int .i64 t.hi, t.kv])[c]? = some u → w.cell? ⟨p, c, none⟩ = some u
theorem Sx.all {w : World} {p : Nat} {t : Tr} (h : Sx w p t) : w.cell? ⟨p, 0, none⟩ = some (.int .i64 t.k) ∧ w.cell? ⟨p, 1, none⟩ = some (.int .i64 t.d) ∧ w.cell? ⟨p, 2, none⟩ = some t.tv ∧ w.cell? ⟨p, 3, none⟩ = some (.int .i64 t.lo) ∧ w.cell? ⟨p, 4, none⟩ = some (.int .i64 t.hi) ∧ w.cell? ⟨p, 5, none⟩ = some t.kv :=
  ⟨h 0 _ rfl, h 1 _ rfl, h 2 _ rfl, h 3 _ rfl, h 4 _ rfl, h 5 _ rfl⟩
theorem Sx.up {w w' : World} {p : Nat} {t : Tr} (h : Sx w p t) (hb : Below w.heap.size w w') : Sx w' p t := fun c u hc => cell_up hb (h c u hc)

/-- An empty box of a filter. -/
abbrev BoxZ (w : World) (p : Nat) : Prop := (w.cell? ⟨p, 0, none⟩ = some (.int .i64 0) ∧ w.cell? ⟨p, 1, none⟩ = some (.int .i64 0) ∧ w.cell? ⟨p, 2, none⟩ = some (.slice none 0 0) ∧ w.cell? ⟨p, 3, none⟩ = some (.int .i64 0) ∧ w.cell? ⟨p, 4, none⟩ = some (.int .i64 0) ∧ w.cell? ⟨p, 5, none⟩ = some (.slice none 0 0)) ∧ ∀ c, w.frozen? ⟨p, c, none⟩ = false
theorem BoxZ.lt {w : World} {p : Nat} (h : BoxZ w p) : p < w.heap.size := World.block_lt_of_cell? _ _ h.1.1
theorem BoxZ.up {w w' : World} {p : Nat} (h : BoxZ w p) (g : Grows w w') : BoxZ w' p := by
  have hb := g.below
  obtain ⟨⟨h0, h1, h2, h3, h4, h5⟩, hf⟩ := h
  exact ⟨⟨cell_up hb h0, cell_up hb h1, cell_up hb h2, cell_up hb h3, cell_up hb h4, cell_up hb h5⟩, fun c => by rw [hb.frozen (BoxZ.lt ⟨⟨h0, h1, h2, h3, h4, h5⟩, hf⟩)]; exact hf c⟩
theorem boxz0 (X : World) : BoxZ (X.alloc (.cells #[.int .i64 0, .int .i64 0, .slice none 0 0, .int .i64 0, .int .i64 0, .slice none 0 0] 27)) X.heap.size := by
  refine ⟨⟨?_, ?_, ?_, ?_, ?_, ?_⟩, fun c => ?_⟩ <;> simp
theorem boxz1 {X w' : World} (g : Grows (X.alloc (.cells #[.int .i64 0, .int .i64 0, .slice none 0 0, .int .i64 0, .int .i64 0, .slice none 0 0] 27)) w') : BoxZ w' X.heap.size := (boxz0 X).up g
theorem boxz1d {W w' : World} (g : Grows (W.drew.alloc (.cells #[.int .i64 0, .int .i64 0, .slice none 0 0, .int .i64 0, .int .i64 0, .slice none 0 0] 27)) w') : BoxZ w' W.heap.size := (boxz0 W.drew).up g
theorem boxz2 {X w' : World} (g : Grows ((X.alloc (.cells #[.int .i64 0, .int .i64 0, .slice none 0 0, .int .i64 0, .int .i64 0, .slice none 0 0] 27)).alloc (.cells #[.int .i64 0, .int .i64 0, .slice none 0 0, .int .i64 0, .int .i64 0, .slice none 0 0] 27)) w') : BoxZ w' X.heap.size ∧ BoxZ w' (X.heap.size + 1) := by
  refine ⟨((boxz0 X).up (Grows.alloc _ _)).up g, ?_⟩
  have := (boxz0 (X.alloc (.cells #[.int .i64 0, .int .i64 0, .slice none 0 0, .int .i64 0, .int .i64 0, .slice none 0 0] 27))).up g
  rwa [show (X.alloc (.cells #[.int .i64 0, .int .i64 0, .slice none 0 0, .int .i64 0, .int .i64 0, .slice none 0 0] 27)).heap.size = X.heap.size + 1 by simp] at this
theorem boxz2d {W w' : World} (g : Grows ((W.drew.alloc (.cells #[.int .i64 0, .int .i64 0, .slice none 0 0, .int .i64 0, .int .i64 0, .slice none 0 0] 27)).alloc (.cells #[.int .i64 0, .int .i64 0, .slice none 0 0, .int .i64 0, .int .i64 0, .slice none 0 0] 27)) w') : BoxZ w' W.heap.size ∧ BoxZ w' (W.heap.size + 1) := boxz2 (X := W.drew) g

theorem Grows.drew1 {w W : World} (h : Grows w W) : Grows w W.drew := h.trans ⟨1, #[], by rw [grow_empty]; rfl⟩
theorem boxz1e {W w' : World} (g : Grows (W.alloc (.cells #[.int .i64 0, .int .i64 0, .slice none 0 0, .int .i64 0, .int .i64 0, .slice none 0 0] 27)).drew w') : BoxZ w' W.heap.size := ((boxz0 W).up (Grows.refl _).drew1).up g
theorem boxz2e {W w' : World} (g : Grows ((W.alloc (.cells #[.int .i64 0, .int .i64 0, .slice none 0 0, .int .i64 0, .int .i64 0, .slice none 0 0] 27)).alloc (.cells #[.int .i64 0, .int .i64 0, .slice none 0 0, .int .i64 0, .int .i64 0, .slice none 0 0] 27)).drew w') : BoxZ w' W.heap.size ∧ BoxZ w' (W.heap.size + 1) := boxz2 ((Grows.refl _).drew1.trans g)
/-- Six cells at the head of a block. -/
abbrev C6 (w : World) (p : Nat) (x0 x1 x2 x3 x4 x5 : Value) : Prop := w.cell? ⟨p, 0, none⟩ = some x0 ∧ w.cell? ⟨p, 1, none⟩ = some x1 ∧ w.cell? ⟨p, 2, none⟩ = some x2 ∧ w.cell? ⟨p, 3, none⟩ = some x3 ∧ w.cell? ⟨p, 4, none⟩ = some x4 ∧ w.cell? ⟨p, 5, none⟩ = some x5
abbrev put6 (w : World) (g : Nat) (x0 x1 x2 x3 x4 x5 : Value) : World := (((((w.setCell ⟨g, 0, none⟩ x0).setCell ⟨g, 1, none⟩ x1).setCell ⟨g, 2, none⟩ x2).setCell ⟨g, 3, none⟩ x3).setCell ⟨g, 4, none⟩ x4).setCell ⟨g, 5, none⟩ x5
theorem so {w : World} {a b : Addr} {v : Value} (h : a ≠ b) : (w.setCell a v).cell? b = w.cell? b := World.cell?_setCell_other _ _ _ _ h
theorem ss {w : World} {a : Addr} {u v : Value} (h : w.cell? a = some u) : (w.setCell a v).cell? a = some v := World.cell?_setCell_same _ _ _ (u := u) h
theorem put6_get {w : World} {p : Nat} {y0 y1 y2 y3 y4 y5 : Value} (x0 x1 x2 x3 x4 x5 : Value) (h : C6 w p y0 y1 y2 y3 y4 y5) : C6 (put6 w p x0 x1 x2 x3 x4 x5) p x0 x1 x2 x3 x4 x5 := by
  obtain ⟨h0, h1, h2, h3, h4, h5⟩ := h
  have ne : ∀ i j : Nat, i ≠ j → (⟨p, i, none⟩ : Addr) ≠ ⟨p, j, none⟩ := fun i j h e => h (by simp only [Addr.mk.injEq, true_and, and_true] at e; exact e)
  refine ⟨?_, ?_, ?_, ?_, ?_, ?_⟩
  · rw [so (ne 5 0 (by omega)), so (ne 4 0 (by omega)), so (ne 3 0 (by omega)), so (ne 2 0 (by omega)), so (ne 1 0 (by omega))]; exact ss h0
  · rw [so (ne 5 1 (by omega)), so (ne 4 1 (by omega)), so (ne 3 1 (by omega)), so (ne 2 1 (by omega))]; exact ss (by rw [so (ne 0 1 (by omega))]; exact h1)
  · rw [so (ne 5 2 (by omega)), so (ne 4 2 (by omega)), so (ne 3 2 (by omega))]; exact ss (by rw [so (ne 1 2 (by omega)), so (ne 0 2 (by omega))]; exact h2)
  · rw [so (ne 5 3 (by omega)), so (ne 4 3 (by omega))]; exact ss (by rw [so (ne 2 3 (by omega)), so (ne 1 3 (by omega)), so (ne 0 3 (by omega))]; exact h3)
  · rw [so (ne 5 4 (by omega))]; exact ss (by rw [so (ne 3 4 (by omega)), so (ne 2 4 (by omega)), so (ne 1 4 (by omega)), so (ne 0 4 (by omega))]; exact h4)
  · exact ss (by rw [so (ne 4 5 (by omega)), so (ne 3 5 (by omega)), so (ne 2 5 (by omega)), so (ne 1 5 (by omega)), so (ne 0 5 (by omega))]; exact h5)
theorem put6_far {w : World} {p q : Nat} (h : p ≠ q) (x0 x1 x2 x3 x4 x5 : Value) (c : Nat) : (put6 w p x0 x1 x2 x3 x4 x5).cell? ⟨q, c, none⟩ = w.cell? ⟨q, c, none⟩ := by
  have ne : ∀ i : Nat, (⟨p, i, none⟩ : Addr) ≠ ⟨q, c, none⟩ := fun i e => h (by simp only [Addr.mk.injEq] at e; exact e.1)
  rw [so (ne 5), so (ne 4), so (ne 3), so (ne 2), so (ne 1), so (ne 0)]
theorem C6.far {w : World} {p q : Nat} (h : p ≠ q) {y0 y1 y2 y3 y4 y5 : Value} (hq : C6 w q y0 y1 y2 y3 y4 y5) (x0 x1 x2 x3 x4 x5 : Value) : C6 (put6 w p x0 x1 x2 x3 x4 x5) q y0 y1 y2 y3 y4 y5 := by
  obtain ⟨h0, h1, h2, h3, h4, h5⟩ := hq
  exact ⟨by rw [put6_far h]; exact h0, by rw [put6_far h]; exact h1, by rw [put6_far h]; exact h2, by rw [put6_far h]; exact h3, by rw [put6_far h]; exact h4, by rw [put6_far h]; exact h5⟩
theorem two_put {Y : World} {p q : Nat} (hp : BoxZ Y p) (hq : BoxZ Y q) (hne : p ≠ q) (x0 x1 x2 x3 x4 x5 z0 z1 z2 z3 z4 z5 : Value) :
    C6 (put6 (put6 Y p x0 x1 x2 x3 x4 x5) q z0 z1 z2 z3 z4 z5) p x0 x1 x2 x3 x4 x5 ∧ C6 (put6 (put6 Y p x0 x1 x2 x3 x4 x5) q z0 z1 z2 z3 z4 z5) q z0 z1 z2 z3 z4 z5 :=
  ⟨C6.far (fun e => hne e.symm) (put6_get x0 x1 x2 x3 x4 x5 hp.1) z0 z1 z2 z3 z4 z5, put6_get z0 z1 z2 z3 z4 z5 (C6.far hne hq.1 x0 x1 x2 x3 x4 x5)⟩

theorem put_alloc {Y : World} {p : Nat} (hp : BoxZ Y p) (x0 x1 x2 x3 x4 x5 z0 z1 z2 z3 z4 z5 : Value) :
    C6 ((put6 Y p x0 x1 x2 x3 x4 x5).alloc (.cells #[z0, z1, z2, z3, z4, z5] 27)) p x0 x1 x2 x3 x4 x5 ∧ C6 ((put6 Y p x0 x1 x2 x3 x4 x5).alloc (.cells #[z0, z1, z2, z3, z4, z5] 27)) Y.heap.size z0 z1 z2 z3 z4 z5 := by
  obtain ⟨h0, h1, h2, h3, h4, h5⟩ := put6_get x0 x1 x2 x3 x4 x5 hp.1
  have hs : Y.heap.size = (put6 Y p x0 x1 x2 x3 x4 x5).heap.size := by simp
  exact ⟨⟨cell_alloc_sl _ h0, cell_alloc_sl _ h1, cell_alloc_sl _ h2, cell_alloc_sl _ h3, cell_alloc_sl _ h4, cell_alloc_sl _ h5⟩, al_new _ _ _ hs rfl, al_new _ _ _ hs rfl, al_new _ _ _ hs rfl, al_new _ _ _ hs rfl, al_new _ _ _ hs rfl, al_new _ _ _ hs rfl⟩
theorem put_alloc' {Y : World} {p : Nat} (hp : BoxZ Y p) (x0 x1 x2 x3 x4 x5 z0 z1 z2 z3 z4 z5 : Value) :
    C6 ((put6 Y p x0 x1 x2 x3 x4 x5).alloc (.cells #[z0, z1, z2, z3, z4, z5] 27)) Y.heap.size z0 z1 z2 z3 z4 z5 ∧ C6 ((put6 Y p x0 x1 x2 x3 x4 x5).alloc (.cells #[z0, z1, z2, z3, z4, z5] 27)) p x0 x1 x2 x3 x4 x5 :=
  ⟨(put_alloc hp x0 x1 x2 x3 x4 x5 z0 z1 z2 z3 z4 z5).2, (put_alloc hp x0 x1 x2 x3 x4 x5 z0 z1 z2 z3 z4 z5).1⟩
theorem Grows.put6 {w W : World} (h : Grows w W) {g : Nat} (hg : w.heap.size ≤ g) (x0 x1 x2 x3 x4 x5 : Value) : Grows w (put6 W g x0 x1 x2 x3 x4 x5) :=
  (((((h.setCell (a := ⟨g, 0, none⟩) hg x0).setCell (a := ⟨g, 1, none⟩) hg x1).setCell (a := ⟨g, 2, none⟩) hg x2).setCell (a := ⟨g, 3, none⟩) hg x3).setCell (a := ⟨g, 4, none⟩) hg x4).setCell (a := ⟨g, 5, none⟩) hg x5
theorem ownx5 {t : Tr} (h : t.k = 5 ∨ t.k = 6 ∨ t.k = 7) : t.own.d = t.d ∧ t.own.lo = 0 ∧ t.own.hi = 0 ∧ t.own.ts = t.ts := by unfold Tr.own; rw [if_pos h]; exact ⟨rfl, rfl, rfl, rfl⟩
theorem ownx8 {t : Tr} (h : t.k = 8) : t.own.d = t.d ∧ t.own.lo = t.lo ∧ t.own.hi = t.hi ∧ t.own.ts = [] := by unfold Tr.own; rw [if_neg (by omega), if_pos h]; exact ⟨rfl, rfl, rfl, rfl⟩
theorem ownx0 {t : Tr} (h5 : ¬(t.k = 5 ∨ t.k = 6 ∨ t.k = 7)) (h8 : t.k ≠ 8) : t.own.d = 0 ∧ t.own.lo = 0 ∧ t.own.hi = 0 ∧ t.own.ts = [] := by unfold Tr.own; rw [if_neg h5, if_neg h8]; exact ⟨rfl, rfl, rfl, rfl⟩
theorem same_own (a b : Tr) : a.same b = (decide (a.own.k = b.own.k) && (decide (a.own.d = b.own.d) && (decide (a.own.lo = b.own.lo) && (decide (a.own.hi = b.own.hi) && (decide (a.own.ts = b.own.ts) && allZip (a.kids.map Tr.same) b.kids))))) := by
  rw [own_k, own_k]
  by_cases hk : a.k = b.k
  · rw [decide_eq_true hk]
    by_cases h5 : a.k = 5 ∨ a.k = 6 ∨ a.k = 7
    · obtain ⟨a1, a2, a3, a4⟩ := ownx5 h5
      obtain ⟨b1, b2, b3, b4⟩ := ownx5 (t := b) (by omega)
      rw [same_5 hk h5, a1, a2, a3, a4, b1, b2, b3, b4, kids_none (t := a) (by omega) (by omega) (by omega), kids_none (t := b) (by omega) (by omega) (by omega)]
      simp [allZip]
    · by_cases h8 : a.k = 8
      · obtain ⟨a1, a2, a3, a4⟩ := ownx8 h8
        obtain ⟨b1, b2, b3, b4⟩ := ownx8 (t := b) (by omega)
        rw [same_8 hk h8, a1, a2, a3, a4, b1, b2, b3, b4, kids_none (t := a) (by omega) (by omega) (by omega), kids_none (t := b) (by omega) (by omega) (by omega)]
        simp [allZip]
      · obtain ⟨a1, a2, a3, a4⟩ := ownx0 h5 h8
        obtain ⟨b1, b2, b3, b4⟩ := ownx0 (t := b) (by omega) (by omega)
        rw [same_o hk h5 h8, a1, a2, a3, a4, b1, b2, b3, b4]
        simp
  · rw [same_k hk, decide_eq_false hk]; rfl

set_option maxHeartbeats 16000000 in
theorem same_step (N : Nat) (ih : SameC N) (a b : Tr) (ht : SizeOf.sizeOf a < N + 1) (w : World) (ha : a.Ok w) (hb : b.Ok w) :
    Calls Try.prog 29 #[.agg #[.int .i64 a.k, .int .i64 a.d, a.tv, .int .i64 a.lo, .int .i64 a.hi, a.kv], .agg #[.int .i64 b.k, .int .i64 b.d, b.tv, .int .i64 b.lo, .int .i64 b.hi, b.kv]] w fun e w' => e = .returned (.bool (a.same b)) ∧ Grows w w' := by
  obtain ⟨at', nt, ct, ak, nk, ck, e1, e2, -, -, -, -⟩ := ha.lens
  obtain ⟨bt', mt, dt, bk, mk, dk, f1, f2, -, -, -, -⟩ := hb.lens
  obtain ⟨W0, hW0⟩ : ∃ W, W = w.alloc (.cells #[.int .i64 a.k, .int .i64 a.d, a.tv, .int .i64 a.lo, .int .i64 a.hi, a.kv] 27) := ⟨_, rfl⟩
  obtain ⟨W, hW1⟩ : ∃ W, W = W0.alloc (.cells #[.int .i64 b.k, .int .i64 b.d, b.tv, .int .i64 b.lo, .int .i64 b.hi, b.kv] 27) := ⟨_, rfl⟩
  have s0 : W0.heap.size = w.heap.size + 1 := by rw [hW0]; simp
  have gW : Grows w W := by rw [hW1, hW0]; exact (Grows.alloc _ _).trans (Grows.alloc _ _)
  have cc : Sx W w.heap.size a := fun c u hc => by
    rw [hW1, hW0]; exact cell_alloc_sl _ (al_new _ _ _ rfl hc)
  have cx : Sx W (w.heap.size + 1) b := fun c u hc => by
    rw [hW1]; exact al_new _ _ _ s0.symm hc
  have hW : W = (w.alloc (.cells #[.int .i64 a.k, .int .i64 a.d, a.tv, .int .i64 a.lo, .int .i64 a.hi, a.kv] 27)).alloc (.cells #[.int .i64 b.k, .int .i64 b.d, b.tv, .int .i64 b.lo, .int .i64 b.hi, b.kv] 27) := by rw [hW1, hW0]
  have HO : Hid (a.Ok W ∧ b.Ok W ∧ SizeOf.sizeOf a < N + 1) := ⟨ha.up gW.below, hb.up gW.below, ht⟩
  have HEa : Hid (a.tv = .slice at' nt ct ∧ a.kv = .slice ak nk ck) := ⟨e1, e2⟩
  have HEb : Hid (b.tv = .slice bt' mt dt ∧ b.kv = .slice bk mk dk) := ⟨f1, f2⟩
  have HG : Hid (Grows w W) := gW
  have HW : Hid _ := hW
  have HI : Aside _ := ih
  have HC : Hid (Sx W w.heap.size a ∧ Sx W (w.heap.size + 1) b) := ⟨cc, cx⟩
  have mixed : Try.prog.follows .mixedOrders = true := by kernel_rfl
  obtain ⟨ao, no, co, g1⟩ := (own_rt HO.out.1).sl
  obtain ⟨bo, mo, do', g2⟩ := (own_rt HO.out.2.1).sl
  have HOa : Hid (a.own.tv = .slice ao no co) := g1
  have HOb : Hid (b.own.tv = .slice bo mo do') := g2
  have kA : ∀ w', Grows W w' → Calls Try.prog 39 #[.agg #[.int .i64 a.k, .int .i64 a.d, .slice at' nt ct, .int .i64 a.lo, .int .i64 a.hi, .slice ak nk ck]] w' fun e w'' => e = .returned (.agg #[.int .i64 a.own.k, .int .i64 a.own.d, .slice ao no co, .int .i64 a.own.lo, .int .i64 a.own.hi, .slice none 0 0]) ∧ Grows W w'' ∧ Grows w' w'' := fun w' g' => by
    have k := own_any w' a (HO.out.1.up g'.below)
    rw [own_kv, g1, e1, e2] at k
    exact k.mono fun e w'' hh => ⟨hh.1, g'.trans hh.2, hh.2⟩
  have kB : ∀ w', Grows W w' → Calls Try.prog 39 #[.agg #[.int .i64 b.k, .int .i64 b.d, .slice bt' mt dt, .int .i64 b.lo, .int .i64 b.hi, .slice bk mk dk]] w' fun e w'' => e = .returned (.agg #[.int .i64 b.own.k, .int .i64 b.own.d, .slice bo mo do', .int .i64 b.own.lo, .int .i64 b.own.hi, .slice none 0 0]) ∧ Grows W w'' ∧ Grows w' w'' := fun w' g' => by
    have k := own_any w' b (HO.out.2.1.up g'.below)
    rw [own_kv, g2, f1, f2] at k
    exact k.mono fun e w'' hh => ⟨hh.1, g'.trans hh.2, hh.2⟩
  have bx : ∀ w', Grows W w' → (w'.cell? ⟨w.heap.size, 0, none⟩ = some (.int .i64 a.k) ∧ w'.cell? ⟨w.heap.size, 1, none⟩ = some (.int .i64 a.d) ∧ w'.cell? ⟨w.heap.size, 2, none⟩ = some (.slice at' nt ct) ∧ w'.cell? ⟨w.heap.size, 3, none⟩ = some (.int .i64 a.lo) ∧ w'.cell? ⟨w.heap.size, 4, none⟩ = some (.int .i64 a.hi) ∧ w'.cell? ⟨w.heap.size, 5, none⟩ = some (.slice ak nk ck)) ∧
      w'.cell? ⟨w.heap.size + 1, 0, none⟩ = some (.int .i64 b.k) ∧ w'.cell? ⟨w.heap.size + 1, 1, none⟩ = some (.int .i64 b.d) ∧ w'.cell? ⟨w.heap.size + 1, 2, none⟩ = some (.slice bt' mt dt) ∧ w'.cell? ⟨w.heap.size + 1, 3, none⟩ = some (.int .i64 b.lo) ∧ w'.cell? ⟨w.heap.size + 1, 4, none⟩ = some (.int .i64 b.hi) ∧ w'.cell? ⟨w.heap.size + 1, 5, none⟩ = some (.slice bk mk dk) := fun w' g' => by
    have h1 := (HC.out.1.up g'.below).all
    have h2 := (HC.out.2.up g'.below).all
    rw [e1, e2] at h1
    rw [f1, f2] at h2
    exact ⟨h1, h2⟩
  have keepS : ∀ w', Grows W w' → (fun w' => Grows W w' ∧ (w'.cell? ⟨w.heap.size, 0, none⟩ = some (.int .i64 a.k) ∧ w'.cell? ⟨w.heap.size, 1, none⟩ = some (.int .i64 a.d) ∧ w'.cell? ⟨w.heap.size, 2, none⟩ = some (.slice at' nt ct) ∧ w'.cell? ⟨w.heap.size, 3, none⟩ = some (.int .i64 a.lo) ∧ w'.cell? ⟨w.heap.size, 4, none⟩ = some (.int .i64 a.hi) ∧ w'.cell? ⟨w.heap.size, 5, none⟩ = some (.slice ak nk ck)) ∧ w'.cell? ⟨w.heap.size + 1, 0, none⟩ = some (.int .i64 b.k) ∧ w'.cell? ⟨w.heap.size + 1, 1, none⟩ = some (.int .i64 b.d) ∧ w'.cell? ⟨w.heap.size + 1, 2, none⟩ = some (.slice bt' mt dt) ∧ w'.cell? ⟨w.heap.size + 1, 3, none⟩ = some (.int .i64 b.lo) ∧ w'.cell? ⟨w.heap.size + 1, 4, none⟩ = some (.int .i64 b.hi) ∧ w'.cell? ⟨w.heap.size + 1, 5, none⟩ = some (.slice bk mk dk)) w' := fun w' g' => ⟨g', bx w' g'⟩
  have b0 : Grows W W.drew := ⟨1, #[], by rw [grow_empty]; rfl⟩
  rw [e1, e2, f1, f2] at HW ⊢
  clear ha hb ht ih hW0 hW1 s0 gW cc cx hW e1 e2 f1 f2 g1 g2
  go_enter Try.func29, Try.ntmps29
  go_wp2_with fail
  rw [← HW.out]
  go_cut [5, 6] (fun t5 t6 wA => ∃ p q : Nat, t5 = .pointer (some ⟨p, 0, none⟩) ∧ t6 = .pointer (some ⟨q, 0, none⟩) ∧ (C6 wA p (.int .i64 a.own.k) (.int .i64 a.own.d) (.slice ao no co) (.int .i64 a.own.lo) (.int .i64 a.own.hi) (.slice none 0 0) ∧ C6 wA q (.int .i64 b.own.k) (.int .i64 b.own.d) (.slice bo mo do') (.int .i64 b.own.lo) (.int .i64 b.own.hi) (.slice none 0 0)) ∧ Grows W wA)
  case first =>
    go_region_held (fun w' => Grows W w' ∧ (w'.cell? ⟨w.heap.size, 0, none⟩ = some (.int .i64 a.k) ∧ w'.cell? ⟨w.heap.size, 1, none⟩ = some (.int .i64 a.d) ∧ w'.cell? ⟨w.heap.size, 2, none⟩ = some (.slice at' nt ct) ∧ w'.cell? ⟨w.heap.size, 3, none⟩ = some (.int .i64 a.lo) ∧ w'.cell? ⟨w.heap.size, 4, none⟩ = some (.int .i64 a.hi) ∧ w'.cell? ⟨w.heap.size, 5, none⟩ = some (.slice ak nk ck)) ∧ w'.cell? ⟨w.heap.size + 1, 0, none⟩ = some (.int .i64 b.k) ∧ w'.cell? ⟨w.heap.size + 1, 1, none⟩ = some (.int .i64 b.d) ∧ w'.cell? ⟨w.heap.size + 1, 2, none⟩ = some (.slice bt' mt dt) ∧ w'.cell? ⟨w.heap.size + 1, 3, none⟩ = some (.int .i64 b.lo) ∧ w'.cell? ⟨w.heap.size + 1, 4, none⟩ = some (.int .i64 b.hi) ∧ w'.cell? ⟨w.heap.size + 1, 5, none⟩ = some (.slice bk mk dk))
      (exact keepS _ (by repeat' (first | with_reducible assumption | with_reducible exact b0 | with_reducible exact Grows.refl _ | with_reducible refine Grows.drew1 ?_ | with_reducible refine Grows.put6 ?_ ?_ _ _ _ _ _ _ | with_reducible refine Grows.trans ?_ (Grows.alloc _ _) | omega)))
      (first
        | (go_at_call 39; (with_reducible refine (kA _ (by repeat' (first | with_reducible assumption | with_reducible exact b0 | with_reducible exact Grows.refl _ | with_reducible refine Grows.drew1 ?_ | with_reducible refine Grows.put6 ?_ ?_ _ _ _ _ _ _ | with_reducible refine Grows.trans ?_ (Grows.alloc _ _) | omega))).mono ?_); rintro e2 w2 ⟨rfl, G2, g2⟩; have hs2 := G2.below.size; (first | (have Z2 : BoxZ w2 W.heap.size ∧ BoxZ w2 (W.heap.size + 1) := boxz2e g2) | (have Z1 : BoxZ w2 W.heap.size := boxz1e g2) | skip); (try (have l1 := BoxZ.lt Z1; have n1 : ¬ W.heap.size = w2.heap.size := (by omega); have n2 : ¬ w2.heap.size = W.heap.size := by omega)))
        | (go_at_call 39; (with_reducible refine (kB _ (by repeat' (first | with_reducible assumption | with_reducible exact b0 | with_reducible exact Grows.refl _ | with_reducible refine Grows.drew1 ?_ | with_reducible refine Grows.put6 ?_ ?_ _ _ _ _ _ _ | with_reducible refine Grows.trans ?_ (Grows.alloc _ _) | omega))).mono ?_); rintro e3 w3 ⟨rfl, G3, g3⟩; have hs3 := G3.below.size; have g23 : Grows w2 w3 := (by first | exact g3 | exact Grows.trans (Grows.alloc _ _) g3 | exact Grows.trans (Grows.trans (Grows.alloc _ _) (Grows.alloc _ _)) g3); (try (have Y1 := BoxZ.up Z1 g23; have HY1 : Hid (BoxZ w3 W.heap.size) := Y1; have u1f := fun o c => (BoxZ.up Y1 (Grows.alloc w3 o)).2 c; have l2 := BoxZ.lt Y1; obtain ⟨⟨u0, u1, u2, u3, u4, u5⟩, uf⟩ := Y1; have u0o := fun o => cell_alloc_sl o u0; have u1o := fun o => cell_alloc_sl o u1; have u2o := fun o => cell_alloc_sl o u2; have u3o := fun o => cell_alloc_sl o u3; have u4o := fun o => cell_alloc_sl o u4; have u5o := fun o => cell_alloc_sl o u5;  have n3 : ¬ W.heap.size = w3.heap.size := (by omega); have n4 : ¬ w3.heap.size = W.heap.size := (by omega); clear Z1)); (try (have Y2 := BoxZ.up Z2.1 g23; have Y3 := BoxZ.up Z2.2 g23; have HY2 : Hid (BoxZ w3 W.heap.size) := Y2; have HY3 : Hid (BoxZ w3 (W.heap.size + 1)) := Y3; obtain ⟨⟨v0, v1, v2, v3, v4, v5⟩, vf⟩ := Y2; obtain ⟨⟨k0, k1, k2, k3, k4, k5⟩, kf⟩ := Y3; clear Z2)); (first | (have Y4 : BoxZ w3 w2.heap.size ∧ BoxZ w3 (w2.heap.size + 1) := boxz2 g3; have HY6 : Hid (BoxZ w3 w2.heap.size) := Y4.1; have HY7 : Hid (BoxZ w3 (w2.heap.size + 1)) := Y4.2; obtain ⟨⟨⟨v0, v1, v2, v3, v4, v5⟩, vf⟩, ⟨k0, k1, k2, k3, k4, k5⟩, kf⟩ := Y4) | (have Y5 : BoxZ w3 w2.heap.size := boxz1 g3; have HY5 : Hid (BoxZ w3 w2.heap.size) := Y5; have q1f := fun o c => (BoxZ.up Y5 (Grows.alloc w3 o)).2 c; have l3 := BoxZ.lt Y5; obtain ⟨⟨q0, q1, q2, q3, q4, q5⟩, qf⟩ := Y5; have q0o := fun o => cell_alloc_sl o q0; have q1o := fun o => cell_alloc_sl o q1; have q2o := fun o => cell_alloc_sl o q2; have q3o := fun o => cell_alloc_sl o q3; have q4o := fun o => cell_alloc_sl o q4; have q5o := fun o => cell_alloc_sl o q5;  have n5 : ¬ w2.heap.size = w3.heap.size := (by omega); have n6 : ¬ w3.heap.size = w2.heap.size := by omega) | skip)))
    all_goals
      go_wp2_with fail
      go_meet
      case rel =>
        refine ⟨_, _, rfl, rfl, ?_, (by repeat' (first | with_reducible assumption | with_reducible exact b0 | with_reducible exact Grows.refl _ | with_reducible refine Grows.drew1 ?_ | with_reducible refine Grows.put6 ?_ ?_ _ _ _ _ _ _ | with_reducible refine Grows.trans ?_ (Grows.alloc _ _) | omega))⟩
        first
          | ((with_reducible refine two_put ?_ ?_ ?_ _ _ _ _ _ _ _ _ _ _ _ _) <;> first | with_reducible exact HY1.out | with_reducible exact HY2.out | with_reducible exact HY3.out | with_reducible exact HY5.out | with_reducible exact HY6.out | with_reducible exact HY7.out | with_reducible exact BoxZ.up HY1.out (Grows.alloc _ _) | with_reducible exact BoxZ.up HY5.out (Grows.alloc _ _) | with_reducible exact boxz0 _ | omega)
          | with_reducible exact put_alloc HY5.out _ _ _ _ _ _ _ _ _ _ _ _
          | with_reducible exact put_alloc HY1.out _ _ _ _ _ _ _ _ _ _ _ _
          | with_reducible exact put_alloc' HY5.out _ _ _ _ _ _ _ _ _ _ _ _
          | with_reducible exact put_alloc' HY1.out _ _ _ _ _ _ _ _ _ _ _ _
          | exact ⟨⟨by simp, by simp, by simp, by simp, by simp, by simp⟩, by simp, by simp, by simp, by simp, by simp, by simp⟩
  case rest =>
    obtain ⟨p, q, rfl, rfl, ⟨⟨r0, r1, r2, r3, r4, r5⟩, s0, s1, s2, s3, s4, s5⟩, gA⟩ := hcut
    rename World => U
    have HGU : Hid (Grows W U) := gA
    have oa := HO.out.1.up gA.below
    have ob := HO.out.2.1.up gA.below
    have kE : ∀ nq os, Calls Try.prog 40 #[a.own.tv, b.own.tv] (grow (U.drewN nq) os) fun e w' => e = .returned (.bool (decide (a.own.ts = b.own.ts))) ∧ ∃ q os', w' = grow ((grow (U.drewN nq) os).drewN q) os' := fun nq os =>
      equal_any _ _ _ _ _ ((own_rt oa).below (below_grown_sl _ U nq os (Nat.le_refl _))) ((own_rt ob).below (below_grown_sl _ U nq os (Nat.le_refl _)))
    have kKa : ∀ nq os, Calls Try.prog 33 #[.agg #[.int .i64 a.k, .int .i64 a.d, a.tv, .int .i64 a.lo, .int .i64 a.hi, a.kv]] (grow (U.drewN nq) os) fun e w' => e = .returned a.kidv ∧ ∃ q os', w' = grow ((grow (U.drewN nq) os).drewN q) os' := fun nq os =>
      kids_any _ a (oa.up (below_grown_sl _ U nq os (Nat.le_refl _)))
    have kKb : ∀ nq os, Calls Try.prog 33 #[.agg #[.int .i64 b.k, .int .i64 b.d, b.tv, .int .i64 b.lo, .int .i64 b.hi, b.kv]] (grow (U.drewN nq) os) fun e w' => e = .returned b.kidv ∧ ∃ q os', w' = grow ((grow (U.drewN nq) os).drewN q) os' := fun nq os =>
      kids_any _ b (ob.up (below_grown_sl _ U nq os (Nat.le_refl _)))
    have kF : ∀ nq os, Calls Try.prog 41 #[a.kidv, b.kidv, .func (.func 29) #[] #[]] (grow (U.drewN nq) os) fun e w' => e = .returned (.bool (allZip (a.kids.map Tr.same) b.kids)) ∧ ∃ q os', w' = grow ((grow (U.drewN nq) os).drewN q) os' := fun nq os =>
      eqf_of N HI.out _ _ (fun c hc => by have := kids_lt hc; have := HO.out.2.2; omega) _ _ _ (oa.up (below_grown_sl _ U nq os (Nat.le_refl _))).kids (ob.up (below_grown_sl _ U nq os (Nat.le_refl _))).kids
    obtain ⟨a6, n6, c6, e6⟩ := oa.kids.sl
    obtain ⟨b6, m6, d6, f6⟩ := ob.kids.sl
    rw [HEa.out.1, HEa.out.2, e6] at kKa
    rw [HEb.out.1, HEb.out.2, f6] at kKb
    rw [e6, f6] at kF
    rw [HOa.out, HOb.out] at kE
    obtain ⟨⟨x0, x1, x2, x3, x4, x5⟩, y0, y1, y2, y3, y4, y5⟩ := bx U gA
    have x0' := fun nq os => cell_gr x0 nq os
    have x1' := fun nq os => cell_gr x1 nq os
    have x2' := fun nq os => cell_gr x2 nq os
    have x3' := fun nq os => cell_gr x3 nq os
    have x4' := fun nq os => cell_gr x4 nq os
    have x5' := fun nq os => cell_gr x5 nq os
    have y0' := fun nq os => cell_gr y0 nq os
    have y1' := fun nq os => cell_gr y1 nq os
    have y2' := fun nq os => cell_gr y2 nq os
    have y3' := fun nq os => cell_gr y3 nq os
    have y4' := fun nq os => cell_gr y4 nq os
    have y5' := fun nq os => cell_gr y5 nq os
    have r0' := fun nq os => cell_gr r0 nq os
    have r1' := fun nq os => cell_gr r1 nq os
    have r2' := fun nq os => cell_gr r2 nq os
    have r3' := fun nq os => cell_gr r3 nq os
    have r4' := fun nq os => cell_gr r4 nq os
    have r5' := fun nq os => cell_gr r5 nq os
    have s0' := fun nq os => cell_gr s0 nq os
    have s1' := fun nq os => cell_gr s1 nq os
    have s2' := fun nq os => cell_gr s2 nq os
    have s3' := fun nq os => cell_gr s3 nq os
    have s4' := fun nq os => cell_gr s4 nq os
    have s5' := fun nq os => cell_gr s5 nq os
    have HR : Hid (a.same b = (decide (a.own.k = b.own.k) && (decide (a.own.d = b.own.d) && (decide (a.own.lo = b.own.lo) && (decide (a.own.hi = b.own.hi) && (decide (a.own.ts = b.own.ts) && allZip (a.kids.map Tr.same) b.kids)))))) := same_own a b
    generalize allZip (a.kids.map Tr.same) b.kids = z at *
    generalize decide (a.own.ts = b.own.ts) = y at *
    generalize a.own.k = ka at *
    generalize b.own.k = kb at *
    generalize a.own.d = da at *
    generalize b.own.d = db at *
    generalize a.own.lo = la at *
    generalize b.own.lo = lb at *
    generalize a.own.hi = ha at *
    generalize b.own.hi = hb at *
    clear oa ob e6 f6 gA bx keepS kA kB b0 x0 x1 x2 x3 x4 x5 y0 y1 y2 y3 y4 y5 r0 r1 r2 r3 r4 r5 s0 s1 s2 s3 s4 s5
    by_cases hk : ka = kb
    · subst hk
      by_cases hd : da = db
      · subst hd
        by_cases hl : la = lb
        · subst hl
          by_cases hh : ha = hb
          · subst hh
            cases y with
            | true =>
              go_wp2_with fail
              refine wp_region_quiet_grown (by assumption) (by kernel_rfl) ?_
              repeat (go_big_quiet_step (first | (go_at_call 40; with_reducible refine Calls.grown_of (kE _ _)) | (go_at_call 33; with_reducible refine Calls.grown_of (kKa _ _)) | (go_at_call 33; with_reducible refine Calls.grown_of (kKb _ _)) | (go_at_call 41; with_reducible refine Calls.grown_of (kF _ _))))
              refine wpQuiet_nil ?_
              intro _ hw'
              obtain ⟨⟨nq, osq⟩, hw''⟩ := hw'
              subst hw''
              go_wp2_with fail
              go_ret
              exact ⟨by rw [HR.out]; simp, HG.out.trans (HGU.out.trans ⟨nq, osq, rfl⟩)⟩
            | false =>
              go_wp2_with fail
              refine wp_region_quiet_grown (by assumption) (by kernel_rfl) ?_
              repeat (go_big_quiet_step (first | (go_at_call 40; with_reducible refine Calls.grown_of (kE _ _)) | (go_at_call 33; with_reducible refine Calls.grown_of (kKa _ _)) | (go_at_call 33; with_reducible refine Calls.grown_of (kKb _ _)) | (go_at_call 41; with_reducible refine Calls.grown_of (kF _ _))))
              refine wpQuiet_nil ?_
              intro _ hw'
              obtain ⟨⟨nq, osq⟩, hw''⟩ := hw'
              subst hw''
              go_wp2_with fail
              go_ret
              exact ⟨by rw [HR.out]; simp, HG.out.trans (HGU.out.trans ⟨nq, osq, rfl⟩)⟩
          · have hhb : (ha == hb) = false := by simp [hh]
            go_wp2_with fail
            refine wp_region_quiet_grown (by assumption) (by kernel_rfl) ?_
            repeat (go_big_quiet_step (first | (go_at_call 40; with_reducible refine Calls.grown_of (kE _ _)) | (go_at_call 33; with_reducible refine Calls.grown_of (kKa _ _)) | (go_at_call 33; with_reducible refine Calls.grown_of (kKb _ _)) | (go_at_call 41; with_reducible refine Calls.grown_of (kF _ _))))
            refine wpQuiet_nil ?_
            intro _ hw'
            obtain ⟨⟨nq, osq⟩, hw''⟩ := hw'
            subst hw''
            go_wp2_with fail
            go_ret
            exact ⟨by rw [HR.out]; simp [hh], HG.out.trans (HGU.out.trans ⟨nq, osq, rfl⟩)⟩
        · have hlb : (la == lb) = false := by simp [hl]
          go_wp2_with fail
          refine wp_region_quiet_grown (by assumption) (by kernel_rfl) ?_
          repeat (go_big_quiet_step (first | (go_at_call 40; with_reducible refine Calls.grown_of (kE _ _)) | (go_at_call 33; with_reducible refine Calls.grown_of (kKa _ _)) | (go_at_call 33; with_reducible refine Calls.grown_of (kKb _ _)) | (go_at_call 41; with_reducible refine Calls.grown_of (kF _ _))))
          refine wpQuiet_nil ?_
          intro _ hw'
          obtain ⟨⟨nq, osq⟩, hw''⟩ := hw'
          subst hw''
          go_wp2_with fail
          go_ret
          exact ⟨by rw [HR.out]; simp [hl], HG.out.trans (HGU.out.trans ⟨nq, osq, rfl⟩)⟩
      · have hdb : (da == db) = false := by simp [hd]
        go_wp2_with fail
        refine wp_region_quiet_grown (by assumption) (by kernel_rfl) ?_
        repeat (go_big_quiet_step (first | (go_at_call 40; with_reducible refine Calls.grown_of (kE _ _)) | (go_at_call 33; with_reducible refine Calls.grown_of (kKa _ _)) | (go_at_call 33; with_reducible refine Calls.grown_of (kKb _ _)) | (go_at_call 41; with_reducible refine Calls.grown_of (kF _ _))))
        refine wpQuiet_nil ?_
        intro _ hw'
        obtain ⟨⟨nq, osq⟩, hw''⟩ := hw'
        subst hw''
        go_wp2_with fail
        go_ret
        exact ⟨by rw [HR.out]; simp [hd], HG.out.trans (HGU.out.trans ⟨nq, osq, rfl⟩)⟩
    · have hkb : (ka == kb) = false := by simp [hk]
      go_wp2_with fail
      refine wp_region_quiet_grown (by assumption) (by kernel_rfl) ?_
      repeat (go_big_quiet_step (first | (go_at_call 40; with_reducible refine Calls.grown_of (kE _ _)) | (go_at_call 33; with_reducible refine Calls.grown_of (kKa _ _)) | (go_at_call 33; with_reducible refine Calls.grown_of (kKb _ _)) | (go_at_call 41; with_reducible refine Calls.grown_of (kF _ _))))
      refine wpQuiet_nil ?_
      intro _ hw'
      obtain ⟨⟨nq, osq⟩, hw''⟩ := hw'
      subst hw''
      go_wp2_with fail
      go_ret
      exact ⟨by rw [HR.out]; simp [hk], HG.out.trans (HGU.out.trans ⟨nq, osq, rfl⟩)⟩
end Go.Proofs.Ytlfkhinmncbkcaa
