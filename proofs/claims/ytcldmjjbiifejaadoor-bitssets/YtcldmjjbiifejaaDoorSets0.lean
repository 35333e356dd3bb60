/- The walk of BitsSets: sets of rows, what is in both, in one, not in, all. -/
import Derived.Test.YtcldmjjbiifejaaDoorIs
namespace Go.Proofs.YtcldmjjbiifejaaDoor
open Go.RowKit

theorem full1_any (w : World) (i : Int) : Calls Tryd.prog 33 #[.int .i64 i] w fun e w'' => e = .returned (.int .u64 ((18446744073709551615 : Nat) : Int)) ∧ ∃ d, w'' = w.drewN d := by
  go_enter Tryd.func33, Tryd.ntmps33
  go_wp2
  go_ret
  exact ⟨by simp, 0, rfl⟩
theorem told_full (n : Nat) : told n (fun _ => 18446744073709551615) = nt n 0 := by
  apply Nat.eq_of_testBit_eq
  intro j
  rw [told_bit (fun _ => by decide), nt_bit (Nat.two_pow_pos n), show (18446744073709551615 : Nat) = 2 ^ 64 - 1 from rfl, Nat.testBit_two_pow_sub_one]
  simp
  omega
theorem full_at {W w' : World} {K n : Nat} (hn : n ≤ 1048576) (hb : Below K W w') (hK : K ≤ w'.heap.size) :
    Calls Tryd.prog 13 #[.int .i64 n] w' fun e w'' => ∃ B g, e = .returned (.tuple #[.pointer (some ⟨B, 0, none⟩), .int .i64 0]) ∧ ISet w'' 0 (.pointer (some ⟨B, 0, none⟩)) n (nt n 0) B g ∧ Below K W w'' ∧ Below w'.heap.size w' w'' := by
  have e : (decide (0 ≤ (n : Int)) && decide ((n : Int) ≤ 1048576)) = true := by simp; omega
  go_enter Tryd.func13, Tryd.ntmps13
  go_wp2_with fail
  refine (isRows_any w' n (by omega)).mono ?_
  rintro e1 w1 ⟨rfl, rfl⟩
  rw [e]
  go_wp2_with fail
  refine (made_full w1 n (fun _ => 18446744073709551615) hn (fun _ => by decide) (fun w' _ i _ => full1_any w' i)).mono ?_
  rintro e1 w2 ⟨p, B, g, rfl, hs, hb2⟩
  rw [told_full] at hs
  go_wp2
  go_ret2
  have := hs.ptr
  subst this
  exact ⟨_, _, rfl, hs.mono (Nat.zero_le _), hb.trans (below_mono hb2 hK), hb2⟩
theorem bls_step (n Z k : Nat) (t : Bool) (h : Z.testBit k = t) : (bls n (Z % 2 ^ k)).set k (.bool t) = bls n (Z % 2 ^ (k + 1)) := by
  subst h
  apply List.ext_getElem
  · simp [bls]
  · intro i h1 h2
    rw [List.getElem_set]
    by_cases hik : k = i
    · subst hik; simp [bls, Nat.testBit_mod_two_pow]
    · simp only [if_neg hik, bls, List.getElem_map, List.getElem_range, Nat.testBit_mod_two_pow]
      by_cases hi : i < k
      · simp [hi, show i < k + 1 by omega]
      · simp [hi, show ¬ i < k + 1 by omega]
theorem own_rds {w : World} {base h n : Nat} {X : Nat} (ho : w.ownsRow base 4 1 (.slice (some ⟨h, 0, none⟩) n n) n (bls n X)) : Rds w (.slice (some ⟨h, 0, none⟩) n n) (bls n X) := by
  have : Own w base 4 (.slice (some ⟨h, 0, none⟩) n n) (bls n X) := by unfold Own; rw [bls_length]; exact ho
  exact this.rds
theorem own_keep {w w' : World} {base h n : Nat} {xs : List Value} (ho : w.ownsRow base 4 1 (.slice (some ⟨h, 0, none⟩) n n) n xs) (hb : Below w.heap.size w w') : w'.ownsRow base 4 1 (.slice (some ⟨h, 0, none⟩) n n) n xs := by
  refine ⟨ho.1, ?_⟩
  rcases ho.2 with h2 | ⟨g, cap, cur, h1, h2, h3, h4⟩
  · exact .inl h2
  · refine .inr ⟨g, cap, cur, h1, h2, ?_, h4⟩
    rw [hb.block g (Array.getElem?_eq_some_iff.1 h3).1]
    exact h3

set_option maxRecDepth 100000 in
set_option maxHeartbeats 4000000 in
theorem sets_walk (w : World) (va vb : Value) (la lb : List Int) (z : Int) (hT : TabAt 0 Lib.deBruijn64tab w) (ha : Rds w va (iv la)) (hb : Rds w vb (iv lb)) (hia : Ints la) (hib : Ints lb) (hz : -9223372036854775808 ≤ z ∧ z ≤ 9223372036854775807) :
    Calls Tryd.prog 3 #[.int .i64 z, va, vb] w fun e w' => e = .returned (.bool true) ∧ Below w.heap.size w w' := by
  have hrows := fun w' => rows_any w' z hz
  obtain ⟨n, hn⟩ : ∃ n, n = ab z % 300 := ⟨_, rfl⟩
  simp only [← hn] at hrows
  have hn3 : n ≤ 299 := by omega
  have HT := hide hT
  obtain ⟨i0, hin, hz0, hz1, hz2⟩ := info_parts Tryd.info_bool
  clear hn hT
  go_enter Tryd.func3, Tryd.ntmps3
  go_wp2_with fail
  refine (awake_any w).mono ?_
  rintro e1 w1 ⟨rfl, c1⟩
  have s1 := c1.size
  go_wp2_with fail
  refine (hrows w1).mono ?_
  rintro e1 w2 ⟨rfl, rfl⟩
  go_wp2_with fail
  refine (lawmade_at (ha.below c1) hia (by omega) c1 s1).mono ?_
  rintro e1 w3 ⟨Bs, gs, hx, X, rfl, iS, oX, c3, d3⟩
  have s3 := c3.size
  go_wp2_with fail
  refine (lawmade_at (hb.below c3) hib (by omega) c3 s3).mono ?_
  rintro e1 w4 ⟨Bt, gt, hy, Y, rfl, iT, oY, c4, d4⟩
  replace iS := iS.below d4
  replace oX := own_keep oX d4
  have s4 := c4.size
  clear ha hb c1 c3 d3 d4 s1 s3 hrows
  go_wp2_with fail
  refine (and_at iS iT c4 s4).mono ?_
  rintro e1 w5 ⟨Bp, gp, rfl, iP, c5, d5⟩
  replace iS := iS.below d5
  replace iT := iT.below d5
  replace oX := own_keep oX d5
  replace oY := own_keep oY d5
  have s5 := c5.size
  clear c4 s4 d5
  go_wp2_with fail
  refine (or_at iS iT c5 s5).mono ?_
  rintro e1 w6 ⟨Bq, gq, rfl, iQ, c6, d6⟩
  replace iS := iS.below d6
  replace iT := iT.below d6
  replace iP := iP.below d6
  replace oX := own_keep oX d6
  replace oY := own_keep oY d6
  have s6 := c6.size
  clear c5 s5 d6
  go_wp2_with fail
  refine (not_at iS c6 s6).mono ?_
  rintro e1 w7 ⟨Br, gr, rfl, iR, c7, d7⟩
  replace iS := iS.below d7
  replace iT := iT.below d7
  replace iP := iP.below d7
  replace iQ := iQ.below d7
  replace oX := own_keep oX d7
  replace oY := own_keep oY d7
  have s7 := c7.size
  clear c6 s6 d7
  go_wp2_with fail
  refine (full_at (by omega) c7 s7).mono ?_
  rintro e1 w8 ⟨Bu, gu, rfl, iU, c8, d8⟩
  replace iS := iS.below d8
  replace iT := iT.below d8
  replace iP := iP.below d8
  replace iQ := iQ.below d8
  replace iR := iR.below d8
  replace oX := own_keep oX d8
  replace oY := own_keep oY d8
  have s8 := c8.size
  clear c7 s7 d8
  have hXl := iS.lt
  go_wp2_with (first
    | (at_make; refine wpList_make_full _ rfl (.tmp 80) (.tmp 80) 26 rfl w8.heap.size 4 i0 (.bool false) 1 Tryd.underlying26 hin hz0 hz1 .i64 .i64 _ _ n rfl rfl (by omega) (by omega) (by rw [hz2]; omega) (by unfold maxLen; omega) (Nat.le_refl _) ?_; intro w9 o9 g9; have z9 := g9.size)
    | (at_make; refine wpList_make_full _ rfl (.tmp 82) (.tmp 82) 26 rfl w8.heap.size 4 i0 (.bool false) 1 Tryd.underlying26 hin hz0 hz1 .i64 .i64 _ _ n rfl rfl (by omega) (by omega) (by rw [hz2]; omega) (by unfold maxLen; omega) (by omega) ?_; intro wa oa ga; have za := ga.size)
    | (at_make; refine wpList_make_full _ rfl (.tmp 84) (.tmp 84) 26 rfl w8.heap.size 4 i0 (.bool false) 1 Tryd.underlying26 hin hz0 hz1 .i64 .i64 _ _ n rfl rfl (by omega) (by omega) (by rw [hz2]; omega) (by unfold maxLen; omega) (by omega) ?_; intro wb ob gb; have zb := gb.size)
    | (at_make; refine wpList_make_full _ rfl (.tmp 86) (.tmp 86) 26 rfl w8.heap.size 4 i0 (.bool false) 1 Tryd.underlying26 hin hz0 hz1 .i64 .i64 _ _ n rfl rfl (by omega) (by omega) (by rw [hz2]; omega) (by unfold maxLen; omega) (by omega) ?_; intro wc oc gc; have zc := gc.size))
  rw [made_bls] at o9 oa ob oc
  have b9 : Below w8.heap.size w8 w9 := (Below.refl _ _).grown g9 (Nat.le_refl _) (by simp)
  have ba : Below w9.heap.size w9 wa := (Below.refl _ _).grown ga (Nat.le_refl _) (by simp)
  have bb : Below wa.heap.size wa wb := (Below.refl _ _).grown gb (Nat.le_refl _) (by simp)
  have bc : Below wb.heap.size wb wc := (Below.refl _ _).grown gc (Nat.le_refl _) (by simp)
  have l9 : w8.heap.size < w9.heap.size := (World.ownsRow.lt o9 _ rfl).2
  have la' : w9.heap.size < wa.heap.size := (World.ownsRow.lt oa _ rfl).2
  have lb' : wa.heap.size < wb.heap.size := (World.ownsRow.lt ob _ rfl).2
  replace o9 := own_keep (own_keep (own_keep o9 ba) bb) bc
  replace oa := own_keep (own_keep oa bb) bc
  replace ob := own_keep ob bc
  have b8 : Below w8.heap.size w8 wc := ((b9.trans (below_mono ba (by omega))).trans (below_mono bb (by omega))).trans (below_mono bc (by omega))
  obtain ⟨h1, e1⟩ : ∃ h1, h1 = w8.heap.size := ⟨_, rfl⟩
  obtain ⟨h2, e2⟩ : ∃ h2, h2 = w9.heap.size := ⟨_, rfl⟩
  obtain ⟨h3, e3⟩ : ∃ h3, h3 = wa.heap.size := ⟨_, rfl⟩
  obtain ⟨h4, e4⟩ : ∃ h4, h4 = wb.heap.size := ⟨_, rfl⟩
  have q12 : h1 < h2 := by omega
  have q23 : h2 < h3 := by omega
  have q34 : h3 < h4 := by omega
  have hxl : hx < w8.heap.size := (World.ownsRow.lt oX _ rfl).2
  have hyl : hy < w8.heap.size := (World.ownsRow.lt oY _ rfl).2
  have q1x : hx < h1 := by omega
  have q1y : hy < h1 := by omega
  rw [← e2] at oa ⊢
  rw [← e3] at ob ⊢
  rw [← e4] at oc ⊢
  generalize hgen : (Value.slice (some ⟨w8.heap.size, 0, none⟩) n n) = sl1 at o9 ⊢
  rw [← e1] at hgen
  subst hgen
  have HE := hide e1
  clear e1 e2 e3 e4 b9 ba bb bc l9 la' lb' g9 ga gb gc z9 za zb zc
  go_loopw [25] (fun i wr => ∃ k : Nat, k ≤ n ∧ i = .int .i64 k ∧ wr.ownsRow w8.heap.size 4 1 (.slice (some ⟨h1, 0, none⟩) n n) n (bls n ((X &&& Y) % 2 ^ k)) ∧
      wr.ownsRow w8.heap.size 4 1 (.slice (some ⟨h2, 0, none⟩) n n) n (bls n ((X ||| Y) % 2 ^ k)) ∧ wr.ownsRow w8.heap.size 4 1 (.slice (some ⟨h3, 0, none⟩) n n) n (bls n (nt n X % 2 ^ k)) ∧
      wr.ownsRow w8.heap.size 4 1 (.slice (some ⟨h4, 0, none⟩) n n) n (bls n (nt n 0 % 2 ^ k)) ∧ Below w8.heap.size w8 wr) (fun i _ => n - (intOf i).toNat)
  case atStart => exact ⟨0, by omega, rfl, by simpa [Nat.mod_one] using o9, by simpa [Nat.mod_one] using oa, by simpa [Nat.mod_one] using ob, by simpa [Nat.mod_one] using oc, b8⟩
  case round =>
    obtain ⟨k, hk, rfl, p1, p2, p3, p4, hbel⟩ := hrel
    by_cases hlt : k < n
    · have hlt' : (k : Int) < (n : Int) := by omega
      have cx := (World.ownsRow.cellAt oX k (by omega)).trans (bls_get n X k hlt)
      rw [← hbel.cell (World.block_lt_of_cell? _ _ cx)] at cx
      have cy := (World.ownsRow.cellAt oY k (by omega)).trans (bls_get n Y k hlt)
      rw [← hbel.cell (World.block_lt_of_cell? _ _ cy)] at cy
      have vA : (X &&& Y).testBit k = (X.testBit k && Y.testBit k) := Nat.testBit_and _ _ _
      have vO : (X ||| Y).testBit k = (X.testBit k || Y.testBit k) := Nat.testBit_or _ _ _
      have vN : (nt n X).testBit k = !X.testBit k := by rw [nt_bit hXl]; simp [hlt]
      have vF : (nt n 0).testBit k = true := by rw [nt_bit (Nat.two_pow_pos n)]; simp [hlt]
      generalize X.testBit k = bx at cx vA vO vN
      generalize Y.testBit k = by' at cy vA vO
      obtain ⟨a1, a2⟩ := World.ownsRow.stored p1 k (.bool (bx && by'))
      rw [bls_step n _ k _ vA] at a1
      have m1 := (World.ownsRow.cellAt p1 k (by omega)).trans (bls_get n _ k hlt)
      have f1 := World.ownsRow.frozenAt p1 k
      have x1 := a2.cell cx (by simp; omega)
      have y1 := a2.cell cy (by simp; omega)
      have p2' := own_other p2 a2 (by omega)
      obtain ⟨b1, b2⟩ := World.ownsRow.stored p2' k (.bool (bx || by'))
      rw [bls_step n _ k _ vO] at b1
      have m2 := (World.ownsRow.cellAt p2' k (by omega)).trans (bls_get n _ k hlt)
      have f2 := World.ownsRow.frozenAt p2' k
      have x2 := b2.cell x1 (by simp; omega)
      have p3' := own_other (own_other p3 a2 (by omega)) b2 (by omega)
      obtain ⟨c1, c2⟩ := World.ownsRow.stored p3' k (.bool (!bx))
      rw [bls_step n _ k _ vN] at c1
      have m3 := (World.ownsRow.cellAt p3' k (by omega)).trans (bls_get n _ k hlt)
      have f3 := World.ownsRow.frozenAt p3' k
      have p4' := own_other (own_other (own_other p4 a2 (by omega)) b2 (by omega)) c2 (by omega)
      obtain ⟨d1, d2⟩ := World.ownsRow.stored p4' k (.bool true)
      rw [bls_step n _ k _ vF] at d1
      have m4 := (World.ownsRow.cellAt p4' k (by omega)).trans (bls_get n _ k hlt)
      have f4 := World.ownsRow.frozenAt p4' k
      have q1 := own_other (own_other (own_other a1 b2 (by omega)) c2 (by omega)) d2 (by omega)
      have q2 := own_other (own_other b1 c2 (by omega)) d2 (by omega)
      have q3 := own_other c1 d2 (by omega)
      have hh1 := unhide HE
      have be := (((hbel.grown a2 hbel.size (fun j hj => by cases hj; omega)).grown b2 (Nat.le_trans hbel.size a2.size) (fun j hj => by cases hj; omega)).grown c2 (Nat.le_trans hbel.size (Nat.le_trans a2.size b2.size)) (fun j hj => by cases hj; omega)).grown d2 (Nat.le_trans hbel.size (Nat.le_trans a2.size (Nat.le_trans b2.size c2.size))) (fun j hj => by cases hj; omega)
      have R := hide (And.intro q1 (And.intro q2 (And.intro q3 (And.intro d1 be))))
      clear q1 q2 q3 d1 be a1 a2 b1 b2 c1 c2 d2 p1 p2 p3 p4 p2' p3' p4' vA vO vN vF hh1 iS iT iP iQ iR iU o9 oa ob oc oX oY b8 c8
      generalize ((X &&& Y) % 2 ^ k).testBit k = u1 at m1
      generalize ((X ||| Y) % 2 ^ k).testBit k = u2 at m2
      generalize (nt n X % 2 ^ k).testBit k = u3 at m3
      generalize (nt n 0 % 2 ^ k).testBit k = u4 at m4
      cases bx <;> cases by' <;> simp only [Bool.and_true, Bool.and_false, Bool.or_true, Bool.or_false, Bool.not_true, Bool.not_false] at *
      all_goals
        go_wp2_with fail
        go_roundw
        case rel => exact ⟨k + 1, by omega, by go_num, (unhide R).1, (unhide R).2.1, (unhide R).2.2.1, (unhide R).2.2.2.1, (unhide R).2.2.2.2⟩
        case measure => simp [intOf]; omega
    · have ek : k = n := by omega
      subst ek
      rw [Nat.mod_eq_of_lt iP.lt] at p1
      rw [Nat.mod_eq_of_lt iQ.lt] at p2
      rw [Nat.mod_eq_of_lt iR.lt] at p3
      rw [Nat.mod_eq_of_lt iU.lt] at p4
      have hT8 := tab_below (unhide HT) c8
      have kI := fun {B g Z v} w' (hi : ISet wr 0 (.pointer (some ⟨B, 0, none⟩)) k Z B g) (hr : Rds wr v (bls k Z)) (hh : Below wr.heap.size wr w') => (is_any w' v k Z B g (hi.below hh) (hr.below hh) (tab_below (tab_below hT8 hbel) hh) (by omega)).mono (fun e w'' (hq : e = .returned (.bool true) ∧ Below w'.heap.size w' w'') => (⟨hq.1, hh.trans (below_mono hq.2 hh.size)⟩ : e = .returned (.bool true) ∧ Below wr.heap.size wr w''))
      have r1 := own_rds p1
      have r2 := own_rds p2
      have r3 := own_rds p3
      have r4 := own_rds p4
      have r5 := (own_rds oX).below hbel
      have r6 := (own_rds oY).below hbel
      replace iS := iS.below hbel
      replace iT := iT.below hbel
      replace iP := iP.below hbel
      replace iQ := iQ.below hbel
      replace iR := iR.below hbel
      replace iU := iU.below hbel
      clear p1 p2 p3 p4 oX oY o9 oa ob oc hlt
      go_wp2_with fail
      refine (kI wr iP r1 (Below.refl _ _)).mono ?_
      rintro e1 wd ⟨rfl, dd⟩
      go_wp2_with fail
      refine (kI wd iQ r2 dd).mono ?_
      rintro e1 we ⟨rfl, de⟩
      go_wp2_with fail
      refine (kI we iR r3 de).mono ?_
      rintro e1 wf ⟨rfl, df⟩
      go_wp2_with fail
      refine (kI wf iU r4 df).mono ?_
      rintro e1 wg ⟨rfl, dg'⟩
      go_wp2_with fail
      refine (kI wg iS r5 dg').mono ?_
      rintro e1 wh ⟨rfl, dh⟩
      go_wp2_with fail
      refine (kI wh iT r6 dh).mono ?_
      rintro e1 wi ⟨rfl, di⟩
      go_wp2
      go_ret
      exact ⟨rfl, c8.trans ((below_mono hbel s8).trans (below_mono di (Nat.le_trans s8 hbel.size)))⟩
end Go.Proofs.YtcldmjjbiifejaaDoor
