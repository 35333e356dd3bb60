/- The walk of BitsLaws: not of what is in both is what is not in one of both; a set and what is not in it share nothing, and have all. -/
import Derived.Test.YtcldmjjbiifejaaLawMade
namespace Go.Proofs.Ytcldmjjbiifejaa
open Go.RowKit

/-- What is not in. -/
def nt (n X : Nat) : Nat := 2 ^ n - (X + 1)
theorem nt_bit {n X : Nat} (h : X < 2 ^ n) (i : Nat) : (nt n X).testBit i = (decide (i < n) && !X.testBit i) := Nat.testBit_two_pow_sub_succ h i
theorem high_bit {n X i : Nat} (h : X < 2 ^ n) (hi : ¬ i < n) : X.testBit i = false := Nat.testBit_lt_two_pow (Nat.lt_of_lt_of_le h (Nat.pow_le_pow_right (by decide) (by omega)))
theorem demorgan {n X Y : Nat} (hX : X < 2 ^ n) (hY : Y < 2 ^ n) : nt n X ||| nt n Y = nt n (X &&& Y) := by
  apply Nat.eq_of_testBit_eq
  intro i
  rw [Nat.testBit_or, nt_bit hX, nt_bit hY, nt_bit (Nat.and_lt_two_pow _ hY), Nat.testBit_and]
  cases decide (i < n) <;> cases X.testBit i <;> cases Y.testBit i <;> rfl
theorem none_both {n X : Nat} (hX : X < 2 ^ n) : X &&& nt n X = 0 := by
  apply Nat.eq_of_testBit_eq
  intro i
  rw [Nat.testBit_and, nt_bit hX, Nat.zero_testBit]
  cases decide (i < n) <;> cases X.testBit i <;> rfl
theorem cnt_zero (n : Nat) : cnt n 0 = 0 := by simp [cnt]
theorem cnt_all {n X : Nat} (hX : X < 2 ^ n) : cnt n (X ||| nt n X) = n := by
  unfold cnt
  rw [List.countP_eq_length.2]
  · simp
  · intro i hi
    have := List.mem_range.1 hi
    rw [Nat.testBit_or, nt_bit hX]
    simp [this]
theorem cnt_nt {n X : Nat} (hX : X < 2 ^ n) : cnt n X + cnt n (nt n X) = n := by
  unfold cnt
  have h := List.length_eq_countP_add_countP (fun i => X.testBit i) (l := List.range n)
  rw [List.length_range] at h
  have e : (List.range n).countP (fun i => (nt n X).testBit i) = (List.range n).countP (fun i => decide ¬(X.testBit i = true)) := by
    apply List.countP_congr
    intro i hi
    rw [nt_bit hX]
    simp [List.mem_range.1 hi]
  rw [e]; omega

theorem rows_any (w : World) (z : Int) (hz : -9223372036854775808 ≤ z ∧ z ≤ 9223372036854775807) :
    Calls Try.prog 15 #[.int .i64 z] w fun e w' => e = .returned (.int .i64 ((ab z % 300 : Nat) : Int)) ∧ w' = w := by
  have hal := ab_le z hz
  have habs := abs_any w z hz
  obtain ⟨a, ha⟩ : ∃ a, a = ab z := ⟨_, rfl⟩
  rw [← ha] at hal habs ⊢
  clear ha
  go_enter Try.func15, Try.ntmps15
  go_wp2_with fail
  refine habs.mono ?_
  rintro e1 w1 ⟨rfl, rfl⟩
  go_wp2
  go_ret
  simp

section
variable {W w' : World} {K n X Y B g B' g' : Nat}
theorem not_at (hs : ISet w' 0 (.pointer (some ⟨B, 0, none⟩)) n X B g) (hb : Below K W w') (hK : K ≤ w'.heap.size) :
    Calls Try.prog 18 #[.pointer (some ⟨B, 0, none⟩)] w' fun e w'' => ∃ B' g', e = .returned (.pointer (some ⟨B', 0, none⟩)) ∧ ISet w'' 0 (.pointer (some ⟨B', 0, none⟩)) n (nt n X) B' g' ∧ Below K W w'' ∧ Below w'.heap.size w' w'' := by
  refine (not_any w' _ _ _ _ _ _ hs).mono ?_
  rintro e w'' ⟨p, B', g', rfl, h1, h2⟩
  have := h1.ptr
  subst this
  exact ⟨_, _, rfl, h1.mono (Nat.zero_le _), hb.trans (below_mono h2 hK), h2⟩
theorem and_at (hs : ISet w' 0 (.pointer (some ⟨B, 0, none⟩)) n X B g) (ht : ISet w' 0 (.pointer (some ⟨B', 0, none⟩)) n Y B' g') (hb : Below K W w') (hK : K ≤ w'.heap.size) :
    Calls Try.prog 17 #[.pointer (some ⟨B, 0, none⟩), .pointer (some ⟨B', 0, none⟩)] w' fun e w'' => ∃ B' g', e = .returned (.tuple #[.pointer (some ⟨B', 0, none⟩), .int .i64 0]) ∧ ISet w'' 0 (.pointer (some ⟨B', 0, none⟩)) n (X &&& Y) B' g' ∧ Below K W w'' ∧ Below w'.heap.size w' w'' := by
  refine (and_any w' _ _ _ _ _ _ _ _ _ _ _ hs ht).mono ?_
  rintro e w'' ⟨p, B', g', rfl, h1, h2⟩
  have := h1.ptr
  subst this
  exact ⟨_, _, rfl, h1.mono (Nat.zero_le _), hb.trans (below_mono h2 hK), h2⟩
theorem or_at (hs : ISet w' 0 (.pointer (some ⟨B, 0, none⟩)) n X B g) (ht : ISet w' 0 (.pointer (some ⟨B', 0, none⟩)) n Y B' g') (hb : Below K W w') (hK : K ≤ w'.heap.size) :
    Calls Try.prog 19 #[.pointer (some ⟨B, 0, none⟩), .pointer (some ⟨B', 0, none⟩)] w' fun e w'' => ∃ B' g', e = .returned (.tuple #[.pointer (some ⟨B', 0, none⟩), .int .i64 0]) ∧ ISet w'' 0 (.pointer (some ⟨B', 0, none⟩)) n (X ||| Y) B' g' ∧ Below K W w'' ∧ Below w'.heap.size w' w'' := by
  refine (or_any w' _ _ _ _ _ _ _ _ _ _ _ hs ht).mono ?_
  rintro e w'' ⟨p, B', g', rfl, h1, h2⟩
  have := h1.ptr
  subst this
  exact ⟨_, _, rfl, h1.mono (Nat.zero_le _), hb.trans (below_mono h2 hK), h2⟩
theorem bytes_at (hs : ISet w' 0 (.pointer (some ⟨B, 0, none⟩)) n X B g) (hb : Below K W w') (hK : K ≤ w'.heap.size) :
    Calls Try.prog 20 #[.pointer (some ⟨B, 0, none⟩)] w' fun e w'' => ∃ v, e = .returned v ∧ Rds w'' v (nv .u8 (dg 8 ((n + 7) / 8) X)) ∧ Below K W w'' ∧ Below w'.heap.size w' w'' := by
  refine (bytes_any w' _ _ _ _ _ _ hs).mono ?_
  rintro e w'' ⟨v, rfl, h1, h2⟩
  exact ⟨_, rfl, h1.rds, hb.trans (below_mono h2 hK), h2⟩
theorem count_at (c : Nat) (hc : cnt n X = c) (hs : ISet w' 0 (.pointer (some ⟨B, 0, none⟩)) n X B g) (hb : Below K W w') :
    Calls Try.prog 21 #[.pointer (some ⟨B, 0, none⟩)] w' fun e w'' => e = .returned (.int .i64 (c : Int)) ∧ Below K W w'' ∧ Below w'.heap.size w' w'' := by
  refine (count_any w' _ _ _ _ _ _ hs).mono ?_
  rintro e w'' ⟨rfl, d, rfl⟩
  exact ⟨by rw [hc], below_drewN hb d, below_drewN (Below.refl _ _) d⟩
theorem lawmade_at {v : Value} {l : List Int} (h : Rds w' v (iv l)) (hi : Ints l) (hn : n ≤ 1000) (hb : Below K W w') (hK : K ≤ w'.heap.size) :
    Calls Try.prog 16 #[.int .i64 n, v] w' fun e w'' => ∃ B g hb X, e = .returned (.tuple #[.pointer (some ⟨B, 0, none⟩), .slice (some ⟨hb, 0, none⟩) n n, .bool true]) ∧ ISet w'' 0 (.pointer (some ⟨B, 0, none⟩)) n X B g ∧
      w''.ownsRow 0 4 1 (.slice (some ⟨hb, 0, none⟩) n n) n (bls n X) ∧ Below K W w'' ∧ Below w'.heap.size w' w'' := by
  refine (lawmade_any w' v l n h hi hn).mono ?_
  rintro e w'' ⟨p, B, g, hb', X, rfl, h1, h2, h3⟩
  have := h1.ptr
  subst this
  exact ⟨_, _, _, _, rfl, h1.mono (Nat.zero_le _), own_mono h2 (Nat.zero_le _), hb.trans (below_mono h3 hK), h3⟩
end

set_option maxHeartbeats 16000000 in
theorem laws_walk (w : World) (va vb : Value) (la lb : List Int) (z : Int) (ha : Rds w va (iv la)) (hb : Rds w vb (iv lb)) (hia : Ints la) (hib : Ints lb) (hz : -9223372036854775808 ≤ z ∧ z ≤ 9223372036854775807) :
    Calls Try.prog 5 #[.int .i64 z, va, vb] w fun e w' => e = .returned (.bool true) ∧ Below w.heap.size w w' := by
  have hrows := fun w' => rows_any w' z hz
  obtain ⟨n, hn⟩ : ∃ n, n = ab z % 300 := ⟨_, rfl⟩
  simp only [← hn] at hrows
  have hn3 : n ≤ 299 := by omega
  clear hn
  go_enter Try.func5, Try.ntmps5
  go_wp2_with fail
  refine (awake_any w).mono ?_
  rintro e1 w1 ⟨rfl, c1⟩
  have s1 := c1.size
  go_wp2_with fail
  refine (hrows w1).mono ?_
  rintro e1 w2 ⟨rfl, rfl⟩
  go_wp2_with fail
  refine (lawmade_at (ha.below c1) hia (by omega) c1 s1).mono ?_
  rintro e1 w3 ⟨Bs, gs, hs, X, rfl, iS, _, c3, d3⟩
  have s3 := c3.size
  go_wp2_with fail
  refine (lawmade_at (hb.below c3) hib (by omega) c3 s3).mono ?_
  rintro e1 w4 ⟨Bt, gt, ht, Y, rfl, iT, _, c4, d4⟩
  replace iS := iS.below d4
  have s4 := c4.size
  have hX := iS.lt
  have hY := iT.lt
  clear ha hb c1 c3 d3 d4 s1 s3 hrows
  go_wp2_with fail
  refine (and_at iS iT c4 s4).mono ?_
  rintro e1 w5 ⟨Bp, gp, rfl, iP, c5, d5⟩
  replace iS := iS.below d5
  replace iT := iT.below d5
  have s5 := c5.size
  clear c4 s4 d5
  go_wp2_with fail
  refine (not_at iS c5 s5).mono ?_
  rintro e1 w6 ⟨B1, g1, rfl, i1, c6, d6⟩
  replace iS := iS.below d6
  replace iT := iT.below d6
  replace iP := iP.below d6
  have s6 := c6.size
  clear c5 s5 d6
  go_wp2_with fail
  refine (not_at iT c6 s6).mono ?_
  rintro e1 w7 ⟨B2, g2, rfl, i2, c7, d7⟩
  replace iS := iS.below d7
  replace iP := iP.below d7
  replace i1 := i1.below d7
  have s7 := c7.size
  clear c6 s6 d7 iT
  go_wp2_with fail
  refine (or_at i1 i2 c7 s7).mono ?_
  rintro e1 w8 ⟨Bq, gq, rfl, iQ, c8, d8⟩
  rw [demorgan hX hY] at iQ
  replace iS := iS.below d8
  replace iP := iP.below d8
  have s8 := c8.size
  clear c7 s7 d8 i1 i2
  go_wp2_with fail
  refine (not_at iS c8 s8).mono ?_
  rintro e1 w9 ⟨B3, g3, rfl, i3, c9, d9⟩
  replace iS := iS.below d9
  replace iP := iP.below d9
  replace iQ := iQ.below d9
  have s9 := c9.size
  clear c8 s8 d9
  go_wp2_with fail
  refine (and_at iS i3 c9 s9).mono ?_
  rintro e1 wa ⟨Br, gr, rfl, iR, ca, da⟩
  replace iS := iS.below da
  replace iP := iP.below da
  replace iQ := iQ.below da
  have sa := ca.size
  clear c9 s9 da i3
  go_wp2_with fail
  refine (not_at iS ca sa).mono ?_
  rintro e1 wb ⟨B4, g4, rfl, i4, cb, db⟩
  replace iS := iS.below db
  replace iP := iP.below db
  replace iQ := iQ.below db
  replace iR := iR.below db
  have sb := cb.size
  clear ca sa db
  go_wp2_with fail
  refine (or_at iS i4 cb sb).mono ?_
  rintro e1 wc ⟨Bu, gu, rfl, iU, cc, dc⟩
  replace iS := iS.below dc
  replace iP := iP.below dc
  replace iQ := iQ.below dc
  replace iR := iR.below dc
  have sc := cc.size
  clear cb sb dc i4
  obtain ⟨c, hc⟩ : ∃ c, c = cnt n X := ⟨_, rfl⟩
  obtain ⟨c', hc'⟩ : ∃ c', c' = cnt n (nt n X) := ⟨_, rfl⟩
  have hsum := cnt_nt hX
  rw [← hc, ← hc'] at hsum
  have hsumi : (c : Int) + (c' : Int) = (n : Int) := by omega
  have fR : cnt n (X &&& nt n X) = 0 := by rw [none_both hX, cnt_zero]
  have fU := cnt_all hX
  have hbnd : c ≤ 299 ∧ c' ≤ 299 := by omega
  obtain ⟨L, hL⟩ : ∃ L, L = dg 8 ((n + 7) / 8) (nt n (X &&& Y)) := ⟨_, rfl⟩
  have hLl : ∀ x ∈ L, x < 2 ^ 8 := by rw [hL]; exact dg_lt _ _ _
  have kP := fun w' (hb : Below wc.heap.size wc w') => not_at (iP.below hb) hb hb.size
  have kN := fun (w' : World) (B g : Nat) (hb : Below wc.heap.size wc w') (hi : ISet w' 0 (.pointer (some ⟨B, 0, none⟩)) n (nt n (X &&& Y)) B g) => bytes_at hi hb hb.size
  have kQ := fun w' (hb : Below wc.heap.size wc w') => bytes_at (iQ.below hb) hb hb.size
  simp only [← hL] at kN kQ
  have kR := fun w' (hb : Below wc.heap.size wc w') => count_at 0 fR (iR.below hb) hb
  have kU := fun w' (hb : Below wc.heap.size wc w') => count_at n fU (iU.below hb) hb
  have kS := fun w' (hb : Below wc.heap.size wc w') => count_at c hc.symm (iS.below hb) hb
  have kM := fun w' (hb : Below wc.heap.size wc w') => not_at (iS.below hb) hb hb.size
  have kC := fun (w' : World) (B g : Nat) (hb : Below wc.heap.size wc w') (hi : ISet w' 0 (.pointer (some ⟨B, 0, none⟩)) n (nt n X) B g) => count_at c' hc'.symm hi hb
  have b0 : Below wc.heap.size wc wc.drew := (Below.refl _ _).drew
  clear iS iP iQ iR iU fR fU hc hc' hL hsum
  obtain ⟨S, hS⟩ : ∃ S : ByteArray, S = ⟨(byt L).toArray⟩ := ⟨_, rfl⟩
  have cv := fun (w' : World) (v : Value) (hh : Rds w' v (nv .u8 L)) => conv_string w' v L hLl hh
  simp only [← hS] at cv
  clear hS hLl
  have HE : Hid ((IntKind.i64.wrap (n : Int) == (n : Int)) = true) := hide (by rw [IntWalk.i64_in _ (by omega)]; simp)
  go_wp2_with fail
  go_region_with (first
    | (go_at_call 18; with_reducible refine (kP _ (by assumption)).mono ?_; rintro e1 wd ⟨Bn, gn, rfl, iN, cd, dd⟩)
    | (go_at_call 18; with_reducible refine (kM _ (by assumption)).mono ?_; rintro e1 wi ⟨Bm, gm, rfl, iM, ci, di⟩)
    | (go_at_call 20; with_reducible refine (kN _ _ _ (by assumption) (by assumption)).mono ?_; rintro e1 we ⟨vN, rfl, rN, ce, de⟩; have t1 := cv we vN rN)
    | (go_at_call 20; with_reducible refine (kQ _ (by assumption)).mono ?_; rintro e1 wf ⟨vQ, rfl, rQ, cf, df⟩; have t2 := cv wf vQ rQ; have t3 := cv wf vN (rN.below df))
    | (go_at_call 21; with_reducible refine (kR _ (by assumption)).mono ?_; rintro e1 wg ⟨rfl, cg, dg'⟩)
    | (go_at_call 21; with_reducible refine (kU _ (by assumption)).mono ?_; rintro e1 wh ⟨rfl, ch, dh⟩)
    | (go_at_call 21; with_reducible refine (kS _ (by assumption)).mono ?_; rintro e1 wj ⟨rfl, cj, dj⟩)
    | (go_at_call 21; with_reducible refine (kC _ _ _ (by assumption) (by assumption)).mono ?_; rintro e1 wk ⟨rfl, ck, dk⟩))
  all_goals
    go_wp2
    go_ret
    refine ⟨?_, cc.trans (below_mono ck cc.size)⟩
    first
      | (rw [unhide HE]; rfl)
      | (simp only [unhide HE]; rfl)
      | (have e := unhide HE; simp [e])
end Go.Proofs.Ytcldmjjbiifejaa
