/- told, following, Seal. -/
import Derived.Test.YtmnlkmgpikilbaaTak
namespace Go.Proofs.Ytmnlkmgpikilbaa
open Go.RowKit Go.Maps Go.Sort
set_option linter.unusedVariables false

abbrev kpa (p : Kp) : Array Value := #[.int .i64 p.num, .int .u64 (p.fr : Int), .int .u64 (p.up : Int), nl, p.v]
theorem ChO.from {w0 w1 w : World} {l : Int} {ts : List Int} {v : Value} (h : ChO w1 w l ts v) (hb : Below w0.heap.size w0 w1) : ChO w0 w l ts v := by
  obtain ⟨ss, gv, h1, h2, h3⟩ := h.ex
  exact ⟨⟨ss, gv, h1, own_mono h2 hb.size, fun k => own_mono (h3 k) hb.size⟩, hb.trans (h.bl.mono hb.size)⟩
theorem ChO.up {w0 w w' : World} {l : Int} {ts : List Int} {v : Value} (h : ChO w0 w l ts v) (hb : Below w.heap.size w w') : ChO w0 w' l ts v := by
  obtain ⟨ss, gv, h1, h2, h3⟩ := h.ex
  exact ⟨⟨ss, gv, h1, own_blk h2 fun r hr => hb.block r (World.ownsRow.lt h2 r hr).2, fun k => own_blk (h3 k) fun r hr => hb.block r (World.ownsRow.lt (h3 k) r hr).2⟩, h.bl.trans (hb.mono h.bl.size)⟩
theorem ChO.keep {w0 w1 w w' : World} {l : Int} {ts : List Int} {v : Value} (h : ChO w1 w l ts v) (hs : w0.heap.size ≤ w1.heap.size) (hb : ∀ r, w1.heap.size ≤ r → w'.heap[r]? = w.heap[r]?) (hbl : Below w0.heap.size w0 w') : ChO w0 w' l ts v := by
  obtain ⟨ss, gv, h1, h2, h3⟩ := h.ex
  exact ⟨⟨ss, gv, h1, own_mono (own_blk h2 fun r hr => hb r (World.ownsRow.lt h2 r hr).1) hs, fun k => own_mono (own_blk (h3 k) fun r hr => hb r (World.ownsRow.lt (h3 k) r hr).1) hs⟩, hbl⟩
theorem Try.info_bat : (Try.prog.info? 51).map (·.size) = some 4 := by kernel_rfl
set_option maxRecDepth 20000 in
set_option maxHeartbeats 2000000 in
theorem told_any (W : World) (F : Nat → Prop) (p : Kp) (h : KOk W F p) (l : Int) (hl : 1 ≤ l ∧ l ≤ 1099511627776) (hn : p.ts.length ≤ 100000) :
    Calls Try.prog 34 #[.agg (kpa p), .int .i64 l] W fun e w' => ∃ v, e = .returned (.agg #[.int .i64 p.num, .int .u64 (p.fr : Int), .int .u64 (p.up : Int), v]) ∧ ChO W w' l p.ts v := by
  obtain ⟨va, vc, hv⟩ := own_sl h.o
  have hva : va = none ∨ ∃ bk o, va = some ⟨bk, o, none⟩ := by
    rcases h.o.2 with ⟨e, _⟩ | ⟨g, c, cur, e, _⟩
    · rw [hv] at e; injection e with e; exact .inl e
    · rw [hv] at e; injection e with e; exact .inr ⟨_, _, e⟩
  obtain ⟨W1, hW1⟩ : ∃ W1, W1 = ((W.alloc (.cells (kpa p) 80)).alloc (.cells #[.int .i64 0, .int .u64 0, .int .u64 0, .slice none 0 0] 51)).alloc (.cells #[.int .i64 p.num, .int .u64 (p.fr : Int), .int .u64 (p.up : Int), .slice none 0 0] 51) := ⟨_, rfl⟩
  have x1 : BxA W1 W.heap.size 80 (kpa p) := by
    rw [hW1]
    exact bx_up (bx_up (BxA.new _ _ _) ((Below.refl _ _).alloc (Nat.le_refl _) _)) ((Below.refl _ _).alloc (Nat.le_refl _) _)
  have x2 : BxA W1 (W.heap.size + 1) 51 #[.int .i64 0, .int .u64 0, .int .u64 0, .slice none 0 0] := by
    rw [hW1]
    have := bx_up (BxA.new (W.alloc (.cells (kpa p) 80)) 51 #[.int .i64 0, .int .u64 0, .int .u64 0, .slice none 0 0]) ((Below.refl _ _).alloc (Nat.le_refl _) (.cells #[.int .i64 p.num, .int .u64 (p.fr : Int), .int .u64 (p.up : Int), .slice none 0 0] 51))
    simpa using this
  have x3 : BxA W1 (W.heap.size + 1 + 1) 51 #[.int .i64 p.num, .int .u64 (p.fr : Int), .int .u64 (p.up : Int), .slice none 0 0] := by
    rw [hW1]
    have := BxA.new ((W.alloc (.cells (kpa p) 80)).alloc (.cells #[.int .i64 0, .int .u64 0, .int .u64 0, .slice none 0 0] 51)) 51 #[.int .i64 p.num, .int .u64 (p.fr : Int), .int .u64 (p.up : Int), .slice none 0 0]
    simpa using this
  have hB1 : Below W.heap.size W W1 := by rw [hW1]; exact (((Below.refl _ _).alloc (Nat.le_refl _) _).alloc (by simp) _).alloc (by simp; omega) _
  have h1 : KOk W1 F p := h.frame fun r hr => hB1.block r (World.ownsRow.lt h.o r hr).2
  have hr1 := RdsK.of_own h1.o
  rw [hv] at hr1
  have kC := chunks_any W1 l hl va _ vc p.ts hr1 h.t40 hn hva
  have c4 : W1.cell? ⟨W.heap.size, 4, none⟩ = some (.slice va p.ts.length vc) := by rw [← hv]; exact x1.cell 4 _ rfl
  have HB1 := hide hB1
  have HX2 := hide x2
  have HX3 := hide x3
  obtain ⟨g, hg⟩ : ∃ g, g = W.heap.size := ⟨_, rfl⟩
  have HGG := hide hg
  obtain ⟨n, hn'⟩ : ∃ n, n = p.ts.length := ⟨_, rfl⟩
  rw [← hn'] at kC c4
  clear hr1 h1 hB1 x1 x2 x3 h hv hva hn hn' hl
  go_enter Try.func34, Try.ntmps34
  go_upto_region 2 with fail
  rw [← hW1]
  rw [← hg] at HX2 HX3 c4 ⊢
  clear hW1 hg
  go_wp2_with (
    go_at_call 43
    refine kC.mono ?_
    rintro e w2 ⟨v, he, hc⟩
    subst he
    have HC := hide hc
    have HY2 := hide (bx_up HX2.out hc.bl)
    have HY3 := hide (bx_up HX3.out hc.bl)
    obtain ⟨ss, gv, -, q2, -⟩ := hc.ex
    obtain ⟨a, c, hx⟩ := own_sl q2
    subst hx
    clear q2 hc kC c4
    have y0 := HY3.out.cell 0 _ rfl
    have y1 := HY3.out.cell 1 _ rfl
    have y2 := HY3.out.cell 2 _ rfl
    have y3 := HY3.out.cell 3 _ rfl
    have f3 := HY3.out.free 3
    have z0 := HY2.out.cell 0 _ rfl
    have z1 := HY2.out.cell 1 _ rfl
    have z2 := HY2.out.cell 2 _ rfl
    have z3 := HY2.out.cell 3 _ rfl
    have e0 := HY2.out.free 0
    have e1 := HY2.out.free 1
    have e2 := HY2.out.free 2
    have e3 := HY2.out.free 3)
  obtain ⟨w9, hw9⟩ : ∃ w9, w9 = ((((w2.setCell ⟨g + 1 + 1, 3, none⟩ (.slice a ss.length c)).setCell ⟨g + 1, 0, none⟩ (.int .i64 p.num)).setCell ⟨g + 1, 1, none⟩ (.int .u64 (p.fr : Int))).setCell ⟨g + 1, 2, none⟩ (.int .u64 (p.up : Int))).setCell ⟨g + 1, 3, none⟩ (.slice a ss.length c) := ⟨_, rfl⟩
  have hX : BxA w9 (g + 1) 51 #[.int .i64 p.num, .int .u64 (p.fr : Int), .int .u64 (p.up : Int), .slice a ss.length c] := by
    have q : BxA (w2.setCell ⟨g + 1 + 1, 3, none⟩ (.slice a ss.length c)) (g + 1) 51 #[.int .i64 0, .int .u64 0, .int .u64 0, .slice none 0 0] := by
      have := HY2.out
      unfold BxA at this ⊢
      rw [heap_setCell_other _ _ _ _ (by simp)]
      exact this
    rw [hw9]
    exact (((q.set 0 _).set 1 _).set 2 _).set 3 _
  have hot : ∀ r, r ≠ g + 1 → r ≠ g + 1 + 1 → w9.heap[r]? = w2.heap[r]? := fun r h1 h2 => by
    rw [hw9, heap_setCell_other _ _ _ _ h1, heap_setCell_other _ _ _ _ h1, heap_setCell_other _ _ _ _ h1, heap_setCell_other _ _ _ _ h1, heap_setCell_other _ _ _ _ h2]
  have hbl : Below W.heap.size w2 w9 := by
    rw [hw9]
    have k1 : W.heap.size ≤ g + 1 := by have := HGG.out; omega
    have k2 : W.heap.size ≤ g + 1 + 1 := by have := HGG.out; omega
    exact (((((Below.refl _ _).setCell k2 _).setCell k1 _).setCell k1 _).setCell k1 _).setCell k1 _
  rw [← hw9]
  have HLT := HX3.out.lt
  exact bodyPost_ret (results_cell_row rfl _ _ (g + 1) 51 _ (0, 0) _ rfl hX Try.underlying51 rfl Try.info_bat) rfl ⟨_, rfl, HC.out.keep HB1.out.size (fun r hr => hot r (by omega) (by omega)) ((HB1.out.trans (HC.out.bl.mono HB1.out.size)).trans hbl)⟩
theorem Try.info_kept : (Try.prog.info? 80).map (·.size) = some 5 := by kernel_rfl
set_option maxRecDepth 20000 in
set_option maxHeartbeats 2000000 in
theorem following_any (W : World) (num : Int) (hnum : 0 ≤ num ∧ num ≤ 1000000) (fr up : Nat) (hup : up ≤ 1000000) :
    Calls Try.prog 26 #[.agg #[.int .i64 num, .int .u64 (fr : Int), .int .u64 (up : Int), nl]] W fun e w' => e = .returned (.agg #[.int .i64 (num + 1), .int .u64 (up : Int), .int .u64 (up : Int), nl, nl]) ∧ Grows W w' := by
  obtain ⟨W1, hW1⟩ : ∃ W1, W1 = (W.alloc (.cells #[.int .i64 num, .int .u64 (fr : Int), .int .u64 (up : Int), nl] 51)).alloc (.cells #[.int .i64 0, .int .u64 0, .int .u64 0, .slice none 0 0, .slice none 0 0] 80) := ⟨_, rfl⟩
  have x1 : BxA W1 W.heap.size 51 #[.int .i64 num, .int .u64 (fr : Int), .int .u64 (up : Int), nl] := by
    rw [hW1]
    exact bx_up (BxA.new _ _ _) ((Below.refl _ _).alloc (Nat.le_refl _) _)
  have x2 : BxA W1 (W.heap.size + 1) 80 #[.int .i64 0, .int .u64 0, .int .u64 0, .slice none 0 0, .slice none 0 0] := by
    rw [hW1]
    have := BxA.new (W.alloc (.cells #[.int .i64 num, .int .u64 (fr : Int), .int .u64 (up : Int), nl] 51)) 80 #[.int .i64 0, .int .u64 0, .int .u64 0, .slice none 0 0, .slice none 0 0]
    simpa using this
  have hG1 : Grows W W1 := by rw [hW1]; exact (Grows.alloc W _).trans (Grows.alloc _ _)
  have c0 : W1.cell? ⟨W.heap.size, 0, none⟩ = some (.int .i64 num) := x1.cell 0 _ rfl
  have c2 : W1.cell? ⟨W.heap.size, 2, none⟩ = some (.int .u64 (up : Int)) := x1.cell 2 _ rfl
  have z0 : W1.cell? ⟨W.heap.size + 1, 0, none⟩ = some (.int .i64 0) := x2.cell 0 _ rfl
  have z1 : W1.cell? ⟨W.heap.size + 1, 1, none⟩ = some (.int .u64 0) := x2.cell 1 _ rfl
  have z2 : W1.cell? ⟨W.heap.size + 1, 2, none⟩ = some (.int .u64 0) := x2.cell 2 _ rfl
  have z3 : W1.cell? ⟨W.heap.size + 1, 3, none⟩ = some (.slice none 0 0) := x2.cell 3 _ rfl
  have z4 : W1.cell? ⟨W.heap.size + 1, 4, none⟩ = some (.slice none 0 0) := x2.cell 4 _ rfl
  have f0 := x2.free 0
  have f1 := x2.free 1
  have f2 := x2.free 2
  have f3 := x2.free 3
  have f4 := x2.free 4
  have HX2 := hide x2
  have HG1 := hide hG1
  clear x1 x2 hG1
  go_enter Try.func26, Try.ntmps26
  go_upto_region 1 with fail
  rw [← hW1]
  clear hW1
  go_wp2_with fail
  have k1 : W.heap.size ≤ W.heap.size + 1 := by omega
  have hX : BxA (((((W1.setCell ⟨W.heap.size + 1, 0, none⟩ (.int .i64 (num + 1))).setCell ⟨W.heap.size + 1, 1, none⟩ (.int .u64 (up : Int))).setCell ⟨W.heap.size + 1, 2, none⟩ (.int .u64 (up : Int))).setCell ⟨W.heap.size + 1, 3, none⟩ (.slice none 0 0)).setCell ⟨W.heap.size + 1, 4, none⟩ (.slice none 0 0)) (W.heap.size + 1) 80 #[.int .i64 (num + 1), .int .u64 (up : Int), .int .u64 (up : Int), nl, nl] := ((((HX2.out.set 0 _).set 1 _).set 2 _).set 3 _).set 4 _
  exact bodyPost_ret (results_cell_row rfl _ _ (W.heap.size + 1) 80 _ (0, 0) _ rfl hX Try.underlying80 rfl Try.info_kept) rfl ⟨rfl, ((((HG1.out.set _ k1).set _ k1).set _ k1).set _ k1).set _ k1⟩
end Go.Proofs.Ytmnlkmgpikilbaa
