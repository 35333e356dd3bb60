/- What BlobKeeps has beside its store, with the box of a raw call; what a step of it does. -/
import Derived.Test.YthegdhbmfojdaaaKbM
import Derived.Test.YthegdhbmfojdaaaOpI
import Derived.Deep.WholeRow
import Derived.Deep.DeepCutAuto
import Derived.Deep.CutBlock
namespace Go.Proofs.Ythegdhbmfojdaaa
open Go.RowKit Go.Maps Go.Sort
set_option linter.unusedVariables false

structure Kc (w0 w : World) (p d : Nat) (F : Nat → Prop) (N : Nat) (s : St) (gx cx gy cy : Nat) (Th : List Int) (By : List Str) (ob : Nat) (cs : Array Value) : Prop where
  k : Kb w0 w p d F N s gx cx gy cy Th By
  o : BxA w ob 35 cs
  fo : ¬ F ob ∧ ob ≠ p
  ox : ob ≠ gx
  oy : ob ≠ gy
section
variable {w0 w w' : World} {p p' d N N' gx cx gy cy ob : Nat} {F F' : Nat → Prop} {s s' : St} {Th : List Int} {By : List Str} {cs : Array Value}
theorem Kb.box (h : Kb w0 w p d F N s gx cx gy cy Th By) (cs : Array Value) : Kc w0 (w.alloc (.cells cs 35)) p d F N s gx cx gy cy Th By w.heap.size cs :=
  ⟨h.below ((Below.refl _ _).alloc (Nat.le_refl _) _), BxA.new _ _ _, ⟨fun hf => by have := h.ls.dk.lt _ hf; omega, by have := h.ls.plt; omega⟩, by have := (own_lt h.a gx rfl).2; omega, by have := (own_lt h.b gy rfl).2; omega⟩
theorem Kc.below (h : Kc w0 w p d F N s gx cx gy cy Th By ob cs) (hb : Below w.heap.size w w') : Kc w0 w' p d F N s gx cx gy cy Th By ob cs :=
  ⟨h.k.below hb, by have := h.o; unfold BxA at this ⊢; rw [hb.block _ (BxA.lt h.o)]; exact this, h.fo, h.ox, h.oy⟩
theorem Kc.keep (h : Kc w0 w p d F N s gx cx gy cy Th By ob cs) (h' : LS w0 w' p' d F' N' s') (hF' : ∀ i, F' i → F i ∨ w.heap.size ≤ i) (hp : p' = p ∨ w.heap.size ≤ p') (fr : Fr F w w') : Kc w0 w' p' d F' N' s' gx cx gy cy Th By ob cs := by
  have lo := BxA.lt h.o
  refine ⟨h.k.keep h' hF' hp fr, ?_, ⟨fun hf => ?_, ?_⟩, h.ox, h.oy⟩
  · have := h.o
    unfold BxA at this ⊢
    rw [fr.block _ lo h.fo.1]
    exact this
  · rcases hF' _ hf with q | q
    · exact h.fo.1 q
    · omega
  · rcases hp with q | q
    · rw [q]; exact h.fo.2
    · omega
theorem Kc.mv (h : Kc w0 w p d F N s gx cx gy cy Th By ob cs) (k : Ls w0 w w' p d N' F s') : ∃ F', Kc w0 w' p d F' N' s' gx cx gy cy Th By ob cs := by
  obtain ⟨⟨F', h', hF'⟩, fr⟩ := k
  exact ⟨F', h.keep h' hF' (.inl rfl) fr⟩
theorem Kc.setx (h : Kc w0 w p d F N s gx cx gy cy Th By ob cs) (k : Nat) (z : Int) : Kc w0 (w.setCell ⟨gx, k, none⟩ (.int .i64 z)) p d F N s gx cx gy cy (Th.set k z) By ob cs := by
  have g := grown_setCell (w := w) (R := gx) (j := k) (u := .int .i64 z)
  refine ⟨h.k.setx k z, ?_, h.fo, h.ox, h.oy⟩
  have := h.o
  unfold BxA at this ⊢
  rw [g.block _ (BxA.lt h.o) fun q => h.ox (by injection q)]
  exact this
theorem Kc.sety (h : Kc w0 w p d F N s gx cx gy cy Th By ob cs) (k : Nat) (z : Str) : Kc w0 (w.setCell ⟨gy, k, none⟩ (.string ⟨z.toArray⟩)) p d F N s gx cx gy cy Th (By.set k z) ob cs := by
  have g := grown_setCell (w := w) (R := gy) (j := k) (u := .string ⟨z.toArray⟩)
  refine ⟨h.k.sety k z, ?_, h.fo, h.ox, h.oy⟩
  have := h.o
  unfold BxA at this ⊢
  rw [g.block _ (BxA.lt h.o) fun q => h.oy (by injection q)]
  exact this
/-- The disk's own operation, the store kept. -/
theorem Kc.dk (h : Kc w0 w p d F N s gx cx gy cy Th By ob cs) (hd : Dk w' d F N s') (fr : Fr F w w') : Kc w0 w' p d F N s' gx cx gy cy Th By ob cs :=
  h.keep ⟨hd, h.k.ls.sr.fr fr h.k.ls.np, h.k.ls.np, h.k.ls.F0, h.k.ls.p0, h.k.ls.bel.trans (fr.below h.k.ls.bel.size h.k.ls.F0)⟩ (fun _ h => .inl h) (.inl rfl) fr
theorem Kb.dk (h : Kb w0 w p d F N s gx cx gy cy Th By) (hd : Dk w' d F N s') (fr : Fr F w w') : Kb w0 w' p d F N s' gx cx gy cy Th By :=
  h.keep ⟨hd, h.ls.sr.fr fr h.ls.np, h.ls.np, h.ls.F0, h.ls.p0, h.ls.bel.trans (fr.below h.ls.bel.size h.ls.F0)⟩ (fun _ h => .inl h) (.inl rfl) fr
theorem Kc.more (h : Kc w0 w p d F N s gx cx gy cy Th By ob cs) (hm : N ≤ N') : Kc w0 w p d F N' s gx cx gy cy Th By ob cs :=
  ⟨⟨⟨h.k.ls.dk.more hm, h.k.ls.sr, h.k.ls.np, h.k.ls.F0, h.k.ls.p0, h.k.ls.bel⟩, h.k.a, h.k.b, h.k.fx, h.k.fy, h.k.xy⟩, h.o, h.fo, h.ox, h.oy⟩
/-- Behind Open. -/
theorem Kc.opn (h : Kc w0 w p d F N s gx cx gy cy Th By ob cs) {e : Ending} (k : Op w w' d N F (0, s') e) : ∃ p', e = .returned (.tuple #[.pointer (some ⟨p', 0, none⟩), .int .i64 0]) ∧ Kc w0 w' p' d F N s' gx cx gy cy Th By ob cs := by
  obtain ⟨q, rfl, sr, hq⟩ := k.ok rfl
  have hs := h.k.ls.bel.size
  exact ⟨q, rfl, h.keep ⟨k.dk, sr, fun hf => by have := h.k.ls.dk.lt _ hf; omega, h.k.ls.F0, by omega, h.k.ls.bel.trans (k.fr.below hs h.k.ls.F0)⟩ (fun _ h => .inl h) (.inr hq) k.fr⟩
end
/-- What a Put or a Delete of BlobKeeps does. -/
inductive KR (M : List (Str × Str)) (Th : List Int) (By : List Str) (n : Nat) (st : Bool) (op part : Int) (k : Nat) (l : Str) : Bool → Nat × St → Prop
  | again (h : Th.getD k 0 = 1) (e : By.getD k [] = l) : KR M Th By n st op part k l true (0, bS M n false st op part)
  | other (h : Th.getD k 0 = 1) (e : ¬ By.getD k [] = l) : KR M Th By n st op part k l true (121, bS M n false st op part)
  | new (h : Th.getD k 0 = 0) : KR M Th By n st op part k l true (0, bS (M ++ [(nmS k, l)]) (n + 3) false st op part)
  | poff (f : Fl) (j : Nat) (h : Th.getD k 0 = 0) (hf : f.nm = fT (nmS k)) (hj : j ≤ 3) (ho : op < ((n + j : Nat) : Int)) : KR M Th By n st op part k l true (122, bD M f (n + j) true st op part)
  | none (h : Th.getD k 0 = 0) : KR M Th By n st op part k l false (120, bS M n false st op part)
  | gone (h : Th.getD k 0 = 1) : KR M Th By n st op part k l false (0, bS (mDel M (nmS k)) (n + 1) false st op part)
  | doff (h : Th.getD k 0 = 1) (ho : op < ((n + 1 : Nat) : Int)) : KR M Th By n st op part k l false (122, bS M (n + 1) true st op part)
theorem kr_put {M : List (Str × Str)} {Th : List Int} {By : List Str} (hI : KI M Th By) (n : Nat) (st : Bool) (op part : Int) (k : Nat) (l : Str) (hk : k < 4) (hl : l.length ≤ 1000) : KR M Th By n st op part k l true (bput (bS M n false st op part) (nmS k) l) := by
  have f := nmS_facts k hk
  have hfew := hI.few
  rcases hI.t01 k hk with h | h
  · rcases bput_new (M := M) (n := n) (st := st) (op := op) (part := part) (by omega) f.1 (show l.length ≤ 1048576 by omega) (hI.no k hk h) with e | ⟨g, j, h1, h2, h3, e, h4, h5⟩
    · rw [e]
      exact .new h
    · rw [e]
      exact .poff g j h h1 h3 h5
  · rw [bput_in (M := M) rfl hI.bl rfl (hI.yes k hk h) (by omega)]
    by_cases e : l = By.getD k []
    · rw [if_pos e]
      exact .again h e.symm
    · rw [if_neg e]
      exact .other h fun q => e q.symm
theorem kr_del {M : List (Str × Str)} {Th : List Int} {By : List Str} (hI : KI M Th By) (n : Nat) (st : Bool) (op part : Int) (k : Nat) (l : Str) (hk : k < 4) : KR M Th By n st op part k l false (bdel (bS M n false st op part) (nmS k)) := by
  have f := nmS_facts k hk
  rcases hI.t01 k hk with h | h
  · rw [bdel_out (M := M) rfl rfl f.1 (hI.no k hk h)]
    exact .none h
  · rcases bdel_in (M := M) (n := n) (st := st) (op := op) (part := part) f.1 (in_mHas (hI.yes k hk h)) with e | ⟨e, h1, h2⟩
    · rw [e]
      exact .gone h
    · rw [e]
      exact .doff h h2
theorem set_same {Th : List Int} {k : Nat} (hk : k < Th.length) {z : Int} (h : Th.getD k 0 = z) : Th.set k z = Th := by
  rw [← h, List.getD_eq_getElem?_getD, List.getElem?_eq_getElem hk]
  simp
theorem set_sameS {By : List Str} {k : Nat} (hk : k < By.length) {z : Str} (h : By.getD k [] = z) : By.set k z = By := by
  rw [← h, List.getD_eq_getElem?_getD, List.getElem?_eq_getElem hk]
  simp
theorem KI.zero : KI [] [0, 0, 0, 0] [[], [], [], []] := by
  refine ⟨⟨List.Pairwise.nil, (fun _ h => by cases h), (fun _ h => by cases h)⟩, rfl, rfl, ?_, ?_, fun _ _ _ => rfl, rfl⟩
  · decide
  · intro k hk e
    exfalso
    revert e
    revert hk k
    decide
/-- A whole struct into the block that was made last, as one step of a list of operations. -/
theorem wpList_store_new {P : Program} {ops : Array Oper} {rest : List Oper} {op : Oper} {a : Act} {w : World} {Q : Exit → Act → World → Prop} (hgd : op.guard = none) (ty : TypeId) (x y : Operand) (ho : op.op = .store ty x y)
    (w0 : World) (c c' : Array Value) (hw : w = w0.alloc (.cells c ty)) (hx : a.eval x = .pointer (some ⟨w0.heap.size, 0, none⟩)) (hy : a.eval y = .agg c')
    (hi : (P.info? ty).map (·.size) = some c'.size) (hc : c.size = c'.size) (h1 : c'.all (·.oneCell') = true)
    (h : wpList P ops Q rest (a.put op.dst undef) (w0.alloc (.cells c' ty))) : wpList P ops Q (op :: rest) a w := by
  subst hw
  refine wpList_plain hgd fun _ hK => ?_
  unfold Oper.wp execOp
  simp only [ho, hx, hy, Instr.storeAt, Instr.sureAddr, Sem.run_bind, Sem.run_pure, Result.andThen_ok, run_storeVar_new w0 ty c c' hi hc h1]
  exact hK _ _ h
theorem Try.info_int : (Try.prog.info? 3).map (fun i => (i.zero, i.size, i.bytes)) = some (some (.int .i64 0), 1, 8) := by kernel_rfl
end Go.Proofs.Ythegdhbmfojdaaa
