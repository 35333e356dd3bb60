/- The contract of Split. -/
import Derived.Test.YthijbpodkklcnaaSpl
import Derived.Deep.LoopGhost
namespace Go.Proofs.Ythijbpodkklcnaa
open Go.RowKit Go.Sort

set_option maxHeartbeats 4000000 in
theorem split_any (w : World) (s : Sp) (g : Int) (hF : In64 s.1) (hT : In64 s.2) (hg2 : In64 g) :
    Calls Try.prog 22 #[.agg #[.int .i64 s.1, .int .i64 s.2], .int .i64 g] w fun e w' => ∃ v', e = .returned (.tuple #[v', .int .i64 (errE (splitE s g))]) ∧ OwP w' w.heap.size v' ((splitE s g).getD []) ∧ Below w.heap.size w w' := by
  obtain ⟨i0, hi, hz0, hz1, hz2⟩ := info_parts Try.info_span
  obtain ⟨F0, T⟩ := s
  simp only at *
  have bA : Below w.heap.size w (w.alloc (.cells #[.int .i64 F0, .int .i64 T] 23)) := (Below.refl _ _).alloc (Nat.le_refl _) _
  by_cases hg : g < 1
  · have e : splitE (F0, T) g = none := by simp [splitE, hg]
    rw [e]
    clear e
    have HB : Hid _ := bA
    clear bA
    go_enter Try.func22, Try.ntmps22
    go_wp2_with fail
    go_returns
    exact ⟨_, rfl, OwP.nil _ _, HB.out⟩
  · have e : splitE (F0, T) g = cut g T 1000 F0 := by simp [splitE, hg]
    rw [e]
    clear e
    go_enter Try.func22, Try.ntmps22
    go_wp2_with fail
    go_loopg [6] 1001 (fun kx v6 wr => ∃ (parts : List Sp) (F : Int) (m : Nat), m ≤ 1000 ∧ 1001 - m ≤ kx ∧ Hid (m = parts.length) ∧ Hid (OwP wr (w.heap.size + 1) v6 parts) ∧ wr.cell? ⟨w.heap.size, 0, none⟩ = some (.int .i64 F) ∧ wr.cell? ⟨w.heap.size, 1, none⟩ = some (.int .i64 T) ∧ wr.frozen? ⟨w.heap.size, 0, none⟩ = false ∧ In64 F ∧ Hid (cut g T 1000 F0 = (cut g T (1000 - m) F).map (parts ++ ·)) ∧ Below w.heap.size w wr ∧ w.heap.size + 1 ≤ wr.heap.size)
    case atStart =>
      refine ⟨[], F0, 0, by omega, by omega, rfl, OwP.nil _ _, by simp, by simp, by simp, hF, ?_, bA, by simp⟩
      show _ = Option.map _ (cut g T 1000 F0)
      cases cut g T 1000 F0 <;> simp
    case round =>
      obtain ⟨parts, F, m, hm, hkx, HM, HO, c0, c1, f0, hIn, HC, bel, hsz⟩ := hrel
      have kE := fun W => empty_ex W F T
      have HBel : Hid _ := bel
      clear bel bA
      obtain ⟨a, n, c, hv⟩ := own_sl HO.out
      have hn : n = m := by
        have := HO.out.rd
        rw [hv] at this
        rw [this.at.1, HM.out]
      subst hn
      subst hv
      by_cases hc : F ≥ T
      · rw [decide_eq_true hc] at kE
        have hcut := HC.out
        rw [cut_done g T _ F hc] at hcut
        have HCut : Hid _ := hcut
        clear hcut hc
        go_wp2_with (go_at_call 13; refine (kE _).mono ?_; rintro e w' ⟨rfl, rfl⟩)
        go_returns
        rw [HCut.out]
        refine ⟨_, rfl, ?_, HBel.out.alloc HBel.out.size _⟩
        show OwP _ _ _ (parts ++ [])
        rw [List.append_nil]
        exact (HO.out.below ((Below.refl _ _).alloc (Nat.le_refl _) _)).mono (by omega)
      · rw [decide_eq_false hc] at kE
        by_cases hl : n = 1000
        · subst hl
          have hcut := HC.out
          rw [show 1000 - 1000 = 0 from rfl, cut_out g T F (by omega)] at hcut
          have HCut : Hid _ := hcut
          clear hcut hc
          go_wp2_with (go_at_call 13; refine (kE _).mono ?_; rintro e w' ⟨rfl, rfl⟩)
          go_returns
          rw [HCut.out]
          exact ⟨_, rfl, OwP.nil _ _, HBel.out.alloc HBel.out.size _⟩
        · have hlf : ((n : Int) == 1000) = false := by simp; omega
          have kf := fun W => firstEnd_any W F T g (by omega) hg2 hIn
          have hfe := fe_in (F := F) (T := T) (g := g) (by omega) (by omega)
          have hcut := HC.out
          rw [show 1000 - n = (1000 - (n + 1)) + 1 by omega, cut_more g T _ F (by omega)] at hcut
          have HCut : Hid _ := hcut
          generalize fe F T g = E at *
          have cA0 := cell_grow c0 (.cells #[.int .i64 F, .int .i64 T] 23)
          have cA1 := cell_grow c1 (.cells #[.int .i64 F, .int .i64 T] 23)
          clear hcut
          go_wp2_with (go_at_call 13; refine (kE _).mono ?_; rintro e w' ⟨rfl, rfl⟩)
          refine (kf _).mono ?_
          rintro e w5 ⟨rfl, g5⟩
          have g5' := (Grows.alloc wr _).trans g5
          have b5 := g5'.below
          have d0 : w5.cell? ⟨w.heap.size, 0, none⟩ = some (.int .i64 F) := by rw [b5.cell (by show w.heap.size < _; omega)]; exact c0
          have d1 : w5.cell? ⟨w.heap.size, 1, none⟩ = some (.int .i64 T) := by rw [b5.cell (by show w.heap.size < _; omega)]; exact c1
          have f5 : w5.frozen? ⟨w.heap.size, 0, none⟩ = false := by rw [b5.frozen (by show w.heap.size < _; omega)]; exact f0
          have hs5 : w.heap.size + 1 ≤ w5.heap.size := by have := b5.size; omega
          have rone := one_rds w5 (F, E) _ rfl
          have HR : Hid (RdP _ _ [(F, E)]) := rone
          have HO5 : Hid (OwP (w5.alloc (.cells #[.int .i64 F, .int .i64 E] 23)) (w.heap.size + 1) (.slice a n c) parts) := (HO.out.below b5).below ((Below.refl _ _).alloc (Nat.le_refl _) _)
          have HB5 : Hid (Below w.heap.size w w5) := HBel.out.trans (b5.mono (by omega))
          have hws : w.heap.size + 1 ≤ (w5.alloc (.cells #[.int .i64 F, .int .i64 E] 23)).heap.size := by simp; omega
          have hml := HM.out
          have hza : parts.length + 1 ≤ maxLen := by unfold maxLen; omega
          have hzb : ((parts.length + 1) + (parts.length + 1) / 4 + 192) * 16 ≤ 281474976710656 := by omega
          clear rone g5 g5' b5 kf kE HO HBel c0 c1 cA0 cA1 hml f0
          go_wp2_with (first
            | (at_builtin; refine wpList_appK rfl _ _ 28 rfl (w.heap.size + 1) 23 i0 (.agg #[.int .i64 0, .int .i64 0]) 2 16 Try.underlying28 hi hz0 hz1 hz2 rfl (by decide) _ _ _ rfl HO5.out _ _ _ rfl HR.out (pv_one _) hza hzb hws ?_; intro v7 w7 hown7 hgrow7 hnil7; clear hnil7; have b7 : Below (w.heap.size + 1) _ w7 := (Below.refl _ _).grown hgrow7 hws (fun k hk => (World.ownsRow.lt HO5.out k hk).1); have e0 : w7.cell? ⟨w.heap.size, 0, none⟩ = some (.int .i64 F) := (by rw [b7.cell (Nat.lt_succ_self _)]; exact cell_grow d0 _); have e1 : w7.cell? ⟨w.heap.size, 1, none⟩ = some (.int .i64 T) := (by rw [b7.cell (Nat.lt_succ_self _)]; exact cell_grow d1 _); have e2 : w7.frozen? ⟨w.heap.size, 0, none⟩ = false := (by rw [b7.frozen (Nat.lt_succ_self _), ((Below.refl w5.heap.size w5).alloc (Nat.le_refl _) _).frozen (by show w.heap.size < _; omega)]; exact f5); have HB7 : Hid (Below (w.heap.size + 1) _ w7) := b7; have HO7 : Hid _ := hown7; clear b7 hown7 hgrow7))
          go_roundg (1001 - (n + 1))
          case measure => omega
          case rel =>
            refine ⟨parts ++ [(F, E)], E, n + 1, by omega, Nat.le_refl _, ?_, ?_, ?_, ?_, ?_, ?_, ?_, ?_, ?_⟩
            · show n + 1 = _
              have := HM.out
              simp; omega
            · show OwP _ _ _ _
              unfold OwP
              rw [pv_app, List.length_append]
              exact ownsRow_setCell_below HO7.out (Nat.lt_succ_self _) _
            · exact World.cell?_setCell_same _ _ _ e0
            · rw [World.cell?_setCell_other _ _ _ _ (by simp)]; exact e1
            · simpa using e2
            · exact ⟨by unfold In64 at *; omega, by unfold In64 at *; omega⟩
            · show cut g T 1000 F0 = _
              rw [HCut.out]
              cases cut g T (1000 - (n + 1)) E <;> simp
            · exact ((HB5.out.trans (((Below.refl _ _).alloc (Nat.le_refl _) _).mono (by omega))).trans (HB7.out.mono (by omega))).setCell (Nat.le_refl _) _
            · have := HB7.out.size
              simp at *; omega
end Go.Proofs.Ythijbpodkklcnaa
