/- slices.AppendSeq, slices.Collect at spans, whatever the iterator. -/
import Derived.Test.YtmnlkmgpikilbaaItk
import Derived.RangeFuncBox
namespace Go.Proofs.Ytmnlkmgpikilbaa
open Go.RowKit Go.Maps Go.Sort Go.Shelf
attribute [local go_sem] Oper.semAt_some
set_option linter.unusedVariables false

def kcs (l : List K2) : List Value := l.flatMap kc
theorem kcs_length (l : List K2) : (kcs l).length = l.length * 2 := by
  unfold kcs
  induction l with
  | nil => rfl
  | cons a l ih => rw [List.flatMap_cons, List.length_append, ih]; simp [kc]; omega
theorem kcs_append (l m : List K2) : kcs (l ++ m) = kcs l ++ kcs m := by simp [kcs]
theorem Try.info_span : (Try.prog.info? 67).map (fun i => (i.zero, i.size, i.bytes)) = some (some (.agg #[.int .i64 0, .int .i64 0]), 2, 16) := by kernel_rfl
/-- A box of two cells. -/
def Box2 (W : World) (B : Nat) (x : K2) : Prop := W.heap[B]? = some (.cells #[.int .i64 x.1, .int .i64 x.2] 67)
theorem box2_own (B : Nat) (x : K2) : Go.Own (fun (_ : Unit) W => Box2 W B x) := fun s X Y row hs hg hrow =>
  (hg.block B (Array.getElem?_eq_some_iff.1 hs).1 (fun e' => by obtain ⟨o, ho, hc⟩ := hrow B e'.symm; rw [show X.heap[B]? = _ from hs] at ho; cases ho; cases hc)).trans hs
theorem box2_new (W : World) (x : K2) : Box2 (W.alloc (.cells #[.int .i64 x.1, .int .i64 x.2] 67)) W.heap.size x := World.alloc_heap_new W _
theorem kc_one (x : K2) : ∀ u ∈ kc x, u.oneCell' = true := by
  intro u hu
  simp only [kc, List.mem_cons, List.not_mem_nil, or_false] at hu
  rcases hu with rfl | rfl <;> rfl
theorem cell_two_new (w : World) (x : K2) : ∀ j u, (kc x)[j]? = some u → (w.alloc (.cells #[.int .i64 x.1, .int .i64 x.2] 67)).cell? ((⟨w.heap.size, 0, none⟩ : Addr).add j) = some u := by
  intro j u hj
  have hb : BxA (w.alloc (.cells #[.int .i64 x.1, .int .i64 x.2] 67)) w.heap.size 67 #[.int .i64 x.1, .int .i64 x.2] := BxA.new _ _ _
  have := hb.cell j u (by simpa [kc] using hj)
  rw [Addr.add_lit]
  simpa using this
theorem own_ne {W : World} {D : Nat} {o : Obj} {base e k n : Nat} {v : Value} {xs : List Value} (h : W.ownsRow base e k v n xs) (hD : W.heap[D]? = some o) (hc : o.isCells = false) : v.ownBlock = none ∨ v.ownBlock ≠ some D := by
  rcases h.2 with ⟨e1, _⟩ | ⟨g, cap, cur, e1, _, hg, _⟩
  · exact .inl (by rw [e1]; rfl)
  · refine .inr fun q => ?_
    rw [e1] at q
    have : g = D := by simpa [Value.ownBlock] using q
    rw [this, hD] at hg
    cases hg
    cases hc
set_option maxRecDepth 100000 in
set_option maxHeartbeats 4000000 in
theorem appendSeq_in (F : Fence) (n : Nat) (h57 : F.fn 57) (hro : F.round = none) (hn : 2 ≤ n) (g : Nat) (lb : Array Value) (hFg : F.fn g) (eg : ∀ args w, (callFunc g args).run Try.prog w = .ok (.enter g args) w)
    (S : List K2 → Prop) (N : Nat) (hN : N ≤ 1000000) (w : World) (hseq : ∀ w', Below w.heap.size w w' → SeqStops F (n - 1) Try.prog g lb enc S (fun _ => True) N w') :
    CallsIn F n Try.prog 57 #[.slice none 0 0, .func (.func g) #[] lb] w fun e w' => ∃ (v : Value) (ss : List K2), e = .returned v ∧ S ss ∧ w'.ownsRow w.heap.size 67 2 v ss.length (kcs ss) ∧ ss.length ≤ N ∧ Below w.heap.size w w' := by
  have h1 : 1 ≤ n := by omega
  obtain ⟨i0, hi0, hz0, hz1, hz2⟩ := info_parts Try.info_span
  refine callsIn_of_wp_marks Try.func57 rfl h57 ?_ hro
  simp only [Try.ntmps57, List.size_toArray, List.length_cons, List.length_nil, Nat.reduceAdd, Nat.reduceSub, Array.replicate_succ, Array.replicate_zero, List.push_toArray, List.append_toArray, List.nil_append, List.cons_append]
  gi_wp2
  obtain ⟨W0, hW0⟩ : ∃ W0, w.alloc (.cells #[.slice none 0 0] 102) = W0 := ⟨_, rfl⟩
  have hB0 : Below w.heap.size w W0 := by rw [← hW0]; exact (Below.refl _ w).alloc (Nat.le_refl _) _
  have hsz : W0.heap.size = w.heap.size + 1 := by rw [← hW0]; simp
  have bS : Boxed W0 w.heap.size 102 (.slice none 0 0) := by rw [← hW0]; exact Boxed.new w _ _
  rw [hW0]
  clear hW0
  refine wpIn_rangeFunc_ownH hro h1 (gf := g) (lb := lb) rfl hFg eg (hseq W0 hB0) walksK_t walksK_b (Below.refl _ _) (fun _ => rfl)
    (fun pre W => (∃ v, Boxed W w.heap.size 102 v ∧ W.ownsRow w.heap.size 67 2 v pre.length (kcs pre) ∧ pre.length ≤ N) ∧ Below w.heap.size w W)
    (fun _ _ _ => False)
    (OwnFrom.and (Own.from (holdsRow_own w.heap.size w.heap.size 102 67 2 (fun pre : List K2 => pre.length) kcs (fun pre _ => pre.length ≤ N)) _) (ownFrom_below (Nat.le_refl _) (by omega)))
    (fun _ _ _ _ _ hs _ _ => hs)
    ⟨⟨_, bS, ⟨rfl, .inl ⟨rfl, rfl⟩⟩, Nat.zero_le _⟩, hB0⟩
    (fun x a' W => ∃ Bx, w.heap.size < Bx ∧ Box2 W Bx x ∧ a' = { tmps := #[.slice none 0 0, .func (.func g) #[] lb, .pointer (some ⟨w.heap.size, 0, none⟩), undef, .slice none 0 0, .pointer (some ⟨Bx, 0, none⟩), .func (.func g) #[] lb, enc x, undef, undef, undef, undef, undef], defers := [] })
    (fun x a' _ X Y row hs hg hr => by obtain ⟨Bx, q1, q2, q3⟩ := hs; exact ⟨Bx, q1, box2_own Bx x () X Y row q2 hg (fun r e => (hr r e).2), q3⟩)
    ?assign ?body ?done ?stop
  case assign =>
    rintro l pre x W K ⟨⟨v, bV, hrow, hle⟩, hB1⟩ hK
    have hlt := bV.lt
    unfold enc at *
    gi_wp2
    exact hK _ _ ((KeepsOthers.alloc _ _).from _) (KeepsOthers.alloc _ _).walks ⟨⟨v, bV.alloc _, hrow.alloc _, hle⟩, hB1.alloc hB1.size _⟩ ⟨W.heap.size, hlt, box2_new W x, rfl⟩
  case body =>
    rintro l pre x a' W hl ⟨r, hr⟩ ⟨⟨v, bV, hrow, -⟩, hB1⟩ ⟨Bx, hBx, bX, rfl⟩ hlt
    have cV := bV.cell
    have fV := bV.frozen
    have c0 : W.cell? ⟨Bx, 0, none⟩ = some (.int .i64 x.1) := by unfold Box2 at bX; simp [World.cell?, bX]
    have c1 : W.cell? ⟨Bx, 1, none⟩ = some (.int .i64 x.2) := by unfold Box2 at bX; simp [World.cell?, bX]
    gi_wp2_with (gi_at_builtin; refine wpListIn_append_own _ rfl _ _ 102 rfl w.heap.size 67 i0 _ 2 16 Try.underlying102 hi0 hz0 hz1 hz2 rfl (by decide) _ _ _ rfl (hrow.alloc _) ⟨W.heap.size, 0, none⟩ 1 1 (kc x) rfl rfl (cell_two_new W x) (kc_one x) (by unfold maxLen; omega) (by omega) (by have := hB1.size; simp; omega) ?_; intro v' w1 hown' hgrow _; obtain ⟨g', cap', rfl⟩ := ownsRow_succ hown'; obtain ⟨hv1, hv2, hr2, hk2, hb2⟩ := bV.appended (by decide) hrow hB1.size (Nat.le_refl _) hown' hgrow; have hc1 := hv1.cell; have hf1 := hv1.frozen)
    exact ⟨hk2.from _, hk2.walks, ⟨⟨_, hv2, by rw [List.length_append, List.length_singleton, kcs_append]; simpa [kcs] using hr2, by rw [List.length_append, List.length_singleton]; omega⟩, hB1.trans hb2⟩⟩
  case done =>
    rintro D ss W hD hS ⟨⟨v, bV, hrow, hle⟩, hB1⟩ hK
    have cS := bV.cell
    gi_wp2
    refine ⟨by simp, .inl ⟨_, _, rfl, run_takeDeferred hK, ?_⟩⟩
    have hb := belowK_b (w := w) (Nat.le_refl _) W D _ (.deferred none) (by omega) hK rfl rfl
    refine ⟨_, results_tmp rfl _ _ _, v, ss, rfl, hS, ?_, hle, hB1.trans hb⟩
    exact hrow.kept (grownBy_putObj' _ D (.deferred none)) (own_ne hrow hK rfl)
  case stop =>
    rintro D c pre W _ _ h _
    exact h.elim
end Go.Proofs.Ytmnlkmgpikilbaa
