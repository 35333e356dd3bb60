/- What came already, as it lies in memory. No walk stands here. -/
import Derived.Test.YtnkllgpibmofiaaHef
import Derived.Maps.OwnSet
namespace Go.Proofs.Ytnkllgpibmofiaa
open Go.RowKit Go.Maps
set_option linter.unusedVariables false

theorem tight {P : Program} {k : TypeId} {R : Value → Option (DataW Unit × List MemPlace)} {w : World} {m n : Nat} {D : DataW Unit} (h : w.ownsMap P k R m n D) : w.ownsMap P k R m (Maps.size D) D := by
  obtain ⟨es, clock, h1, h2, h3, rfl⟩ := h
  exact ⟨es, clock, h1, h2, by simp [Maps.size, length_sorted], rfl⟩
theorem map_frame {P : Program} {k : TypeId} {R : Value → Option (DataW Unit × List MemPlace)} {w w' : World} {m n : Nat} {D : DataW Unit} (h : w.ownsMap P k R m n D) (hb : w'.heap[m]? = w.heap[m]?) : w'.ownsMap P k R m n D := by
  obtain ⟨es, clock, h1, h2⟩ := h
  exact ⟨es, clock, hb.trans h1, h2⟩
theorem map_cell {P : Program} {k : TypeId} {R : Value → Option (DataW Unit × List MemPlace)} {w : World} {m n : Nat} {D : DataW Unit} (h : w.ownsMap P k R m n D) : ∃ es clock, w.heap[m]? = some (.map es clock) := by
  obtain ⟨es, clock, h1, h2⟩ := h
  exact ⟨es, clock, h1⟩
theorem lawU : Keyed Try.prog 28 := int_keyed Try.underlying28
theorem lawI : Keyed Try.prog 3 := int_keyed Try.underlying3
theorem keyU (x : Nat) (h : x < 18446744073709551616) : keyOf Try.prog 28 (.int .u64 (x : Int)) = some (.int .u64 (x : Int)) :=
  keyOf_int_mk Try.underlying28 (by
    have e1 : IntKind.u64.min = 0 := by decide
    have e2 : IntKind.u64.max = 18446744073709551615 := by decide
    simp only [Lit.wf, e1, e2, Bool.and_eq_true, decide_eq_true_eq]
    omega)
theorem keyI (x : Int) (h : -9223372036854775808 ≤ x ∧ x ≤ 9223372036854775807) : keyOf Try.prog 3 (.int .i64 x) = some (.int .i64 x) :=
  keyOf_int_mk Try.underlying3 (by
    have e1 : IntKind.i64.min = -9223372036854775808 := by decide
    have e2 : IntKind.i64.max = 9223372036854775807 := by decide
    simp only [Lit.wf, e1, e2, Bool.and_eq_true, decide_eq_true_eq]
    exact h)
abbrev B64 (x : Int) : Prop := -9223372036854775808 ≤ x ∧ x ≤ 9223372036854775807
abbrev U64 (x : Nat) : Prop := x < 18446744073709551616
theorem litU_ne {x y : Nat} (h : x ≠ y) : Lit.int .u64 (x : Int) ≠ .int .u64 (y : Int) := fun e => h (by injection e with _ e; omega)
theorem litI_ne {x y : Int} (h : x ≠ y) : Lit.int .i64 x ≠ .int .i64 y := fun e => h (by injection e)

/-- What a map of Ids says. -/
structure MI (D : DataW Unit) (S : List Nat) : Prop where
  has : ∀ x : Nat, Maps.has D (.int .u64 (x : Int)) = decide (x ∈ S)
  size : Maps.size D = S.length
theorem MI.nil : MI (.map []) [] := ⟨fun x => by simp [Maps.has], rfl⟩
theorem MI.add {D : DataW Unit} {S S' : List Nat} (h : MI D S) (hD : Tidy D) {x : Nat} (hx : x ∉ S) (hp : S'.Perm (S ++ [x])) (d : DataW Unit) : MI (D.put (.int .u64 (x : Int)) d) S' := by
  have hk : WideAt.IsKeyLit (Lit.int .u64 (x : Int)) := trivial
  have hS : ∀ y, y ∈ S' ↔ y ∈ S ∨ y = x := fun y => by rw [hp.mem_iff]; simp
  refine ⟨fun y => ?_, ?_⟩
  · by_cases hy : y = x
    · subst hy
      rw [has_put_same hD.isMap hk]
      symm
      rw [decide_eq_true_eq, hS]
      exact .inr rfl
    · rw [has_put_other (litU_ne hy), h.has y]
      have : (y ∈ S') ↔ y ∈ S := by rw [hS]; exact ⟨fun h => h.resolve_right hy, .inl⟩
      simp [this]
  · rw [size_put hD, h.has x, h.size, hp.length_eq]
    simp [hx]
theorem MI.del {D : DataW Unit} {S S' : List Nat} (h : MI D S) (hD : Tidy D) {x : Nat} (hn : S.Nodup) (hp : (S' ++ [x]).Perm S) : MI (D.del (.int .u64 (x : Int))) S' := by
  have hn' : (S' ++ [x]).Nodup := hp.nodup_iff.2 hn
  have hx' : x ∉ S' := by
    rw [List.nodup_append] at hn'
    intro h
    exact hn'.2.2 x h x (by simp) rfl
  have hS : ∀ y, y ∈ S ↔ y ∈ S' ∨ y = x := fun y => by rw [← hp.mem_iff]; simp
  refine ⟨fun y => ?_, ?_⟩
  · by_cases hy : y = x
    · subst hy
      rw [has_del_same]
      simp [hx']
    · rw [has_del_other (litU_ne hy), h.has y]
      have : (y ∈ S) ↔ y ∈ S' := by rw [hS]; exact ⟨fun h => h.resolve_right hy, .inl⟩
      simp [this]
  · have h1 := size_del hD (k := .int .u64 (x : Int))
    rw [h.has x, h.size] at h1
    have h2 := hp.length_eq
    have h3 : x ∈ S := (hS x).2 (.inr rfl)
    simp [h3] at h1 h2
    omega
/-- How a row's pointer reads. -/
def pel (v : Value) : Option (DataW Unit × List MemPlace) :=
  match v with
  | .pointer none => some (.nil, [])
  | .pointer (some ⟨g, 0, none⟩) => some (.lit (.int .i64 (g : Int)), [])
  | _ => none
theorem pel_inv {v : Value} {y : DataW Unit × List MemPlace} (h : pel v = some y) : (v = .pointer none ∧ y = (.nil, [])) ∨ ∃ g : Nat, v = .pointer (some ⟨g, 0, none⟩) ∧ y = (.lit (.int .i64 (g : Int)), []) := by
  unfold pel at h
  split at h
  · cases h; exact .inl ⟨rfl, rfl⟩
  · cases h; exact .inr ⟨_, rfl, rfl⟩
  · cases h
theorem pel_at {v : Value} {g : Nat} {ps : List MemPlace} (h : pel v = some (.lit (.int .i64 (g : Int)), ps)) : v = .pointer (some ⟨g, 0, none⟩) := by
  rcases pel_inv h with ⟨rfl, e⟩ | ⟨g', rfl, e⟩
  · cases e
  · simp only [Prod.mk.injEq, DataW.lit.injEq, Lit.int.injEq] at e
    have : g = g' := by have := e.1.2; omega
    rw [this]
theorem pel_nil {v : Value} {ps : List MemPlace} (h : pel v = some (.nil, ps)) : v = .pointer none := by
  rcases pel_inv h with ⟨rfl, e⟩ | ⟨g', rfl, e⟩
  · rfl
  · cases e
/-- What is remembered of one sender. -/
structure Rw where
  fr : Int
  g : Nat
  m : Nat
  v : Value
  ids : List Nat
structure ROk (w : World) (F : Nat → Prop) (x : Rw) : Prop where
  h : Hb w x.g (.map (some x.m)) x.v x.ids
  m : ∃ D, w.ownsMap Try.prog 28 unitElem x.m x.ids.length D ∧ MI D x.ids
  hp : Hp x.ids
  nd : x.ids.Nodup
  sm : ∀ i ∈ x.ids, U64 i
  fg : F x.g
  fm : F x.m
  fv : ∀ r, x.v.ownBlock = some r → F r
  b64 : B64 x.fr
def Bk (x : Rw) (i : Nat) : Prop := i = x.g ∨ i = x.m ∨ x.v.ownBlock = some i
theorem ROk.bk {w : World} {F : Nat → Prop} {x : Rw} (h : ROk w F x) {i : Nat} (hi : Bk x i) : F i := by
  rcases hi with rfl | rfl | hi
  · exact h.fg
  · exact h.fm
  · exact h.fv i hi
theorem ROk.own {w w' : World} {F : Nat → Prop} {x : Rw} (h : ROk w F x) (hb : ∀ i, Bk x i → w'.heap[i]? = w.heap[i]?) : ROk w' F x := by
  obtain ⟨D, h1, h2⟩ := h.m
  exact ⟨h.h.frame (hb _ (.inl rfl)) fun r hr => hb r (.inr (.inr hr)), ⟨D, map_frame h1 (hb _ (.inr (.inl rfl))), h2⟩, h.hp, h.nd, h.sm, h.fg, h.fm, h.fv, h.b64⟩
/-- Its blocks other than its map's are no maps. -/
theorem ROk.cells {w : World} {F : Nat → Prop} {x : Rw} (h : ROk w F x) {i : Nat} (hi : Bk x i) : i = x.m ∨ ∃ cs t fr, w.heap[i]? = some (.cells cs t fr) := by
  rcases hi with rfl | rfl | hi
  · exact .inr ⟨_, _, _, h.h.b⟩
  · exact .inl rfl
  · rcases h.h.o.2 with ⟨h1, _⟩ | ⟨g', cap, cur, h1, _, h3, _⟩
    · rw [h1] at hi; cases hi
    · rw [h1] at hi
      simp only [Value.ownBlock, Option.some.injEq] at hi
      subst hi
      exact .inr ⟨_, _, _, h3⟩
def Apart (a b : Rw) : Prop := a.fr ≠ b.fr ∧ a.g ≠ b.g ∧ a.m ≠ b.m ∧ ∀ r, a.v.ownBlock = some r → b.v.ownBlock ≠ some r
theorem Apart.symm {a b : Rw} (h : Apart a b) : Apart b a := ⟨h.1.symm, h.2.1.symm, h.2.2.1.symm, fun r h1 h2 => h.2.2.2 r h2 h1⟩
structure MR (D : DataW Unit) (Z : List Rw) : Prop where
  at' : ∀ e ∈ Z, ∀ z, D.atKey (.int .i64 e.fr) z = .lit (.int .i64 (e.g : Int))
  has : ∀ f : Int, Maps.has D (.int .i64 f) = Z.any fun e => e.fr == f
  size : Maps.size D = Z.length
structure SnZ (w : World) (s : Nat) (F : Nat → Prop) (most : Int) (K : Nat) (mo : Option Nat) (Z : List Rw) : Prop where
  b : BxA w s 98 #[.int .i64 most, .map mo]
  f : F s
  m : (mo = none ∧ Z = []) ∨ ∃ m D, mo = some m ∧ w.ownsMap Try.prog 3 pel m Z.length D ∧ MR D Z
  fm : ∀ m, mo = some m → F m
  e : ∀ x ∈ Z, ROk w F x ∧ x.ids.length ≤ K
  ap : Z.Pairwise Apart
  few : Z.length ≤ K
  om : ∀ x ∈ Z, ∀ m, mo = some m → x.m ≠ m
  lt : ∀ i, F i → i < w.heap.size
theorem ROk.frame {w w' : World} {F : Nat → Prop} {x : Rw} (h : ROk w F x) (hb : ∀ i, F i → w'.heap[i]? = w.heap[i]?) : ROk w' F x := by
  obtain ⟨D, h1, h2⟩ := h.m
  exact ⟨h.h.frame (hb _ h.fg) fun r hr => hb r (h.fv r hr), ⟨D, map_frame h1 (hb _ h.fm), h2⟩, h.hp, h.nd, h.sm, h.fg, h.fm, h.fv, h.b64⟩
theorem ROk.mono {w : World} {F G : Nat → Prop} {x : Rw} (h : ROk w F x) (hF : ∀ i, F i → G i) : ROk w G x := ⟨h.h, h.m, h.hp, h.nd, h.sm, hF _ h.fg, hF _ h.fm, fun r hr => hF r (h.fv r hr), h.b64⟩
theorem SnZ.frame {w w' : World} {s K : Nat} {F : Nat → Prop} {most : Int} {mo : Option Nat} {Z : List Rw} (h : SnZ w s F most K mo Z) (hs : w.heap.size ≤ w'.heap.size) (hb : ∀ i, F i → w'.heap[i]? = w.heap[i]?) : SnZ w' s F most K mo Z := by
  refine ⟨by have := h.b; unfold BxA at this ⊢; rw [hb _ h.f]; exact this, h.f, ?_, h.fm, fun x hx => ⟨(h.e x hx).1.frame hb, (h.e x hx).2⟩, h.ap, h.few, h.om, fun i hi => Nat.lt_of_lt_of_le (h.lt i hi) hs⟩
  rcases h.m with h1 | ⟨m, D, h1, h2, h3⟩
  · exact .inl h1
  · exact .inr ⟨m, D, h1, map_frame h2 (hb _ (h.fm m h1)), h3⟩
theorem MR.perm {D : DataW Unit} {Z Z' : List Rw} (h : MR D Z) (hp : Z'.Perm Z) : MR D Z' := by
  refine ⟨fun e he => h.at' e (hp.mem_iff.1 he), fun f => ?_, by rw [h.size, hp.length_eq]⟩
  rw [h.has f, Bool.eq_iff_iff, List.any_eq_true, List.any_eq_true]
  exact ⟨fun ⟨x, h1, h2⟩ => ⟨x, hp.mem_iff.2 h1, h2⟩, fun ⟨x, h1, h2⟩ => ⟨x, hp.mem_iff.1 h1, h2⟩⟩
theorem SnZ.perm {w : World} {s K : Nat} {F : Nat → Prop} {most : Int} {mo : Option Nat} {Z Z' : List Rw} (h : SnZ w s F most K mo Z) (hp : Z'.Perm Z) : SnZ w s F most K mo Z' := by
  refine ⟨h.b, h.f, ?_, h.fm, fun x hx => h.e x (hp.mem_iff.1 hx), hp.symm.pairwise h.ap fun h => h.symm, by rw [hp.length_eq]; exact h.few, fun x hx => h.om x (hp.mem_iff.1 hx), h.lt⟩
  rcases h.m with ⟨h1, h2⟩ | ⟨m, D, h1, h2, h3⟩
  · subst h2
    exact .inl ⟨h1, hp.eq_nil⟩
  · exact .inr ⟨m, D, h1, by rw [hp.length_eq]; exact h2, h3.perm hp⟩
theorem MR.add {D : DataW Unit} {Z : List Rw} (h : MR D Z) (hD : Tidy D) (e : Rw) (hn : ∀ x ∈ Z, x.fr ≠ e.fr) : MR (D.put (.int .i64 e.fr) (.lit (.int .i64 (e.g : Int)))) (e :: Z) := by
  have hk : WideAt.IsKeyLit (Lit.int .i64 e.fr) := trivial
  refine ⟨fun x hx z => ?_, fun f => ?_, ?_⟩
  · rcases List.mem_cons.1 hx with rfl | hx
    · exact atKey_put_same hD.isMap hk _ _
    · rw [atKey_put_other (litI_ne (hn x hx))]
      exact h.at' x hx z
  · by_cases hf : f = e.fr
    · subst hf
      rw [has_put_same hD.isMap hk]
      simp
    · rw [has_put_other (litI_ne hf), h.has f]
      have : (e.fr == f) = false := by simpa using fun h => hf h.symm
      simp [this]
  · rw [size_put hD, h.has e.fr, h.size]
    have : (Z.any fun x => x.fr == e.fr) = false := by
      rw [List.any_eq_false]
      intro x hx
      simpa using hn x hx
    simp [this]
end Go.Proofs.Ytnkllgpibmofiaa
