/- The walk of BitsCounts: what is in one of two sets, and what is in both, are together as many as the two have; what is in both is in each. -/
import Derived.Test.YtcldmjjbiifejaaDoorLaws0
import Derived.Test.YtcldmjjbiifejaaDoorLists
import Derived.Test.YtcldmjjbiifejaaDoorRows
import Derived.Lib.LaidTab
import Derived.LaidMore
namespace Go.Proofs.YtcldmjjbiifejaaDoor
open Go.RowKit

theorem cnt_succ (n X : Nat) : cnt (n + 1) X = cnt n X + (X.testBit n).toNat := by
  rw [cnt_add]
  congr 1
  simp only [cnt, List.range_one, List.countP_cons, List.countP_nil, Nat.testBit_div_two_pow, Nat.zero_add]
  cases X.testBit n <;> rfl
theorem cnt_both (X Y : Nat) : ∀ n, cnt n (X &&& Y) + cnt n (X ||| Y) = cnt n X + cnt n Y
  | 0 => by simp [cnt]
  | n + 1 => by
    have ih := cnt_both X Y n
    rw [cnt_succ, cnt_succ, cnt_succ, cnt_succ, Nat.testBit_and, Nat.testBit_or]
    cases X.testBit n <;> cases Y.testBit n <;> simp <;> omega
theorem has_true {W w' : World} {K n X B g r : Nat} (hs : ISet w' 0 (.pointer (some ⟨B, 0, none⟩)) n X B g) (hr : r < n) (hx : X.testBit r = true) (hb : Below K W w') :
    Calls Tryd.prog 20 #[.pointer (some ⟨B, 0, none⟩), .int .i64 (r : Int)] w' fun e w'' => e = .returned (.bool true) ∧ Below K W w'' := by
  have hle := hs.le
  refine (has_any w' 0 n X B g _ r hs (by omega)).mono ?_
  rintro e w'' ⟨rfl, d, rfl⟩
  refine ⟨?_, below_drewN hb d⟩
  have h1 : decide (0 ≤ (r : Int)) = true := by simp
  have h2 : decide ((r : Int) < (n : Int)) = true := by simp; omega
  rw [h1, h2, Int.toNat_natCast, hx]; rfl
theorem list_at {W w' : World} {K n X B g : Nat} (hs : ISet w' 0 (.pointer (some ⟨B, 0, none⟩)) n X B g) (hT : TabAt 0 Lib.deBruijn64tab w') (hb : Below K W w') (hK : K ≤ w'.heap.size) :
    Calls Tryd.prog 23 #[.pointer (some ⟨B, 0, none⟩)] w' fun e w'' => ∃ v, e = .returned v ∧ Rds w'' v (nv .i64 (lst n X)) ∧ Below K W w'' ∧ Below w'.heap.size w' w'' := by
  refine (list_any w' _ _ _ _ _ _ hs hT).mono ?_
  rintro e w'' ⟨v, rfl, h1, h2⟩
  exact ⟨_, rfl, h1.rds, hb.trans (below_mono h2 hK), h2⟩
theorem tab_below {w w' : World} {t : List Nat} (h : TabAt 0 t w) (hb : Below w.heap.size w w') : TabAt 0 t w' :=
  fun j hj => (hb.cell (World.block_lt_of_cell? _ _ (h j hj))).trans (h j hj)

/-- What the condition on the library's table gives a walk. -/
theorem tab_of_laid {W : World} (h : laidMetH Tryd.prog [("math/bits.deBruijn64tab", Rows.laid_math_bits_deBruijn64tab)] W) : TabAt 0 Lib.deBruijn64tab W := by
  rw [MakeChecks.laidMetH_plain _ _ _ (by kernel_rfl)] at h
  have h' : laidMet Tryd.prog [("math/bits.deBruijn64tab", Go.Lib.tabData .u8 (Lib.deBruijn64tab.map fun n : Nat => (n : Int)))] W := h
  have ht := Go.Lib.tabIs_of_head (g := 0) (t := 63) (e := 5) (n := 64) (by kernel_rfl) (by kernel_rfl) Tryd.underlying63 Tryd.underlying5 (by kernel_rfl) (by kernel_rfl) h'
  intro j hj
  have := ht.cell (g := 0) (by kernel_rfl) j (by simpa using hj)
  rw [this]
  simp [hj]

set_option maxHeartbeats 1600000 in
theorem counts_walk (w : World) (va vb : Value) (la lb : List Int) (z : Int) (hT : TabAt 0 Lib.deBruijn64tab w) (ha : Rds w va (iv la)) (hb : Rds w vb (iv lb)) (hia : Ints la) (hib : Ints lb) (hz : -9223372036854775808 ≤ z ∧ z ≤ 9223372036854775807) :
    Calls Tryd.prog 6 #[.int .i64 z, va, vb] w fun e w' => e = .returned (.bool true) ∧ Below w.heap.size w w' := by
  have hrows := fun w' => rows_any w' z hz
  obtain ⟨n, hn⟩ : ∃ n, n = ab z % 300 := ⟨_, rfl⟩
  simp only [← hn] at hrows
  have hn3 : n ≤ 299 := by omega
  have HT := hide hT
  clear hn hT
  go_enter Tryd.func6, Tryd.ntmps6
  go_wp2_with fail
  refine (awake_any w).mono ?_
  rintro e1 w1 ⟨rfl, c1⟩
  have s1 := c1.size
  go_wp2_with fail
  refine (hrows w1).mono ?_
  rintro e1 w2 ⟨rfl, rfl⟩
  go_wp2_with fail
  refine (lawmade_at (ha.below c1) hia (by omega) c1 s1).mono ?_
  rintro e1 w3 ⟨Bs, gs, hs, X, rfl, iS, _, c3, d3⟩
  have s3 := c3.size
  go_wp2_with fail
  refine (lawmade_at (hb.below c3) hib (by omega) c3 s3).mono ?_
  rintro e1 w4 ⟨Bt, gt, ht, Y, rfl, iT, _, c4, d4⟩
  replace iS := iS.below d4
  have s4 := c4.size
  clear ha hb c1 c3 d3 d4 s1 s3 hrows
  go_wp2_with fail
  refine (and_at iS iT c4 s4).mono ?_
  rintro e1 w5 ⟨Bp, gp, rfl, iP, c5, d5⟩
  replace iS := iS.below d5
  replace iT := iT.below d5
  have s5 := c5.size
  clear c4 s4 d5
  go_wp2_with fail
  refine (or_at iS iT c5 s5).mono ?_
  rintro e1 w6 ⟨Bq, gq, rfl, iQ, c6, d6⟩
  replace iS := iS.below d6
  replace iT := iT.below d6
  replace iP := iP.below d6
  have s6 := c6.size
  clear c5 s5 d6
  have hcb := cnt_both X Y n
  have l1 := cnt_le n (X &&& Y)
  have l2 := cnt_le n (X ||| Y)
  have l3 := cnt_le n X
  have l4 := cnt_le n Y
  obtain ⟨a, ha⟩ : ∃ a, a = cnt n (X &&& Y) := ⟨_, rfl⟩
  obtain ⟨b, hb⟩ : ∃ b, b = cnt n (X ||| Y) := ⟨_, rfl⟩
  obtain ⟨c, hc⟩ : ∃ c, c = cnt n X := ⟨_, rfl⟩
  obtain ⟨d, hd⟩ : ∃ d, d = cnt n Y := ⟨_, rfl⟩
  rw [← ha, ← hb, ← hc, ← hd] at hcb
  rw [← ha] at l1
  rw [← hb] at l2
  rw [← hc] at l3
  rw [← hd] at l4
  obtain ⟨e, he⟩ : ∃ e, e = a + b := ⟨_, rfl⟩
  have ei1 : (a : Int) + (b : Int) = (e : Int) := by omega
  have ei2 : (c : Int) + (d : Int) = (e : Int) := by omega
  have HA := hide ha.symm
  have HB := hide hb.symm
  have HC := hide hc.symm
  have HD := hide hd.symm
  clear ha hb hc hd he hcb
  go_wp2_with fail
  refine (count_at a (unhide HA) iP c6).mono ?_
  rintro e1 w7 ⟨rfl, c7, d7⟩
  replace iS := iS.below d7
  replace iT := iT.below d7
  replace iP := iP.below d7
  replace iQ := iQ.below d7
  clear d7
  go_wp2_with fail
  refine (count_at b (unhide HB) iQ c7).mono ?_
  rintro e1 w8 ⟨rfl, c8, d8⟩
  replace iS := iS.below d8
  replace iT := iT.below d8
  replace iP := iP.below d8
  replace iQ := iQ.below d8
  clear d8
  go_wp2_with fail
  refine (count_at c (unhide HC) iS c8).mono ?_
  rintro e1 w9 ⟨rfl, c9, d9⟩
  replace iS := iS.below d9
  replace iT := iT.below d9
  replace iP := iP.below d9
  replace iQ := iQ.below d9
  clear d9
  go_wp2_with fail
  refine (count_at d (unhide HD) iT c9).mono ?_
  rintro e1 wa ⟨rfl, ca, da⟩
  replace iS := iS.below da
  replace iT := iT.below da
  replace iP := iP.below da
  replace iQ := iQ.below da
  have sa := ca.size
  have hTa := tab_below (unhide HT) ca
  clear da c6 c7 c8 c9 s6
  go_wp2_with fail
  refine (list_at iP hTa ca sa).mono ?_
  rintro e1 wb ⟨v, rfl, rL, cb, db⟩
  replace iS := iS.below db
  replace iT := iT.below db
  replace iQ := iQ.below db
  have hmem : ∀ i, i < (lst n (X &&& Y)).length → ∃ r, (lst n (X &&& Y)).getD i 0 = r ∧ r < n ∧ X.testBit r = true ∧ Y.testBit r = true ∧ (X ||| Y).testBit r = true := by
    intro i hi
    have e : (lst n (X &&& Y)).getD i 0 = (lst n (X &&& Y))[i] := by simp [hi]
    obtain ⟨h1, h2⟩ := lst_mem.1 (List.getElem_mem hi)
    rw [Nat.testBit_and] at h2
    simp at h2
    exact ⟨_, e, h1, h2.1, h2.2, by rw [Nat.testBit_or, h2.1]; rfl⟩
  have hll := lst_le n (X &&& Y)
  obtain ⟨L, hL⟩ : ∃ L, L = lst n (X &&& Y) := ⟨_, rfl⟩
  rw [← hL] at hmem rL hll
  have HM := hide hmem
  clear hmem hL hTa ca sa db iP
  obtain ⟨ao, nn, cap, rfl⟩ : ∃ ao n cap, v = .slice ao n cap := by obtain ⟨ao, cap, rfl, _⟩ := rL; exact ⟨_, _, _, rfl⟩
  have hnn : nn = L.length := by have := rL.cells.1; rwa [nv_length] at this
  subst hnn
  obtain ⟨_, h1, h2, h3⟩ := rL.cells
  simp only [nv_length] at h1 h2 h3
  go_wp2_with fail
  go_loopw [19] (fun i wr => ∃ k : Nat, k ≤ L.length ∧ i = .int .i64 k ∧ Below wb.heap.size wb wr) (fun i _ => L.length - (intOf i).toNat)
  case atStart => exact ⟨0, by omega, rfl, Below.refl _ _⟩
  case round =>
    obtain ⟨k, hk, rfl, hbel⟩ := hrel
    by_cases hlt : k < L.length
    · have hlt' : (k : Int) < (L.length : Int) := by omega
      obtain ⟨bb, off, rfl, hcc⟩ := h3 (by omega)
      have hck := hcc k _ (nv_get .i64 L k hlt)
      have hlb := World.block_lt_of_cell? _ _ hck
      have hcell := fun w' (hh : Below wb.heap.size wb w') => (hh.cell hlb).trans hck
      obtain ⟨r, hr, hrn, hx, hy, hxy⟩ := unhide HM k hlt
      simp only [hr] at hcell
      have kS := fun w' (hh : Below wb.heap.size wb w') => has_true (iS.below hh) hrn hx hh
      have kT := fun w' (hh : Below wb.heap.size wb w') => has_true (iT.below hh) hrn hy hh
      have kQ := fun w' (hh : Below wb.heap.size wb w') => has_true (iQ.below hh) hrn hxy hh
      have q1 := hcell wr hbel
      clear hck hr hx hy hxy iS iT iQ hcc h3 rL
      go_wp2_with fail
      refine (kS wr hbel).mono ?_
      rintro e1 wc ⟨rfl, hc⟩
      have q2 := hcell wc hc
      go_wp2_with fail
      refine (kT wc hc).mono ?_
      rintro e1 wd ⟨rfl, hd⟩
      have q3 := hcell wd hd
      go_wp2_with fail
      refine (kQ wd hd).mono ?_
      rintro e1 we ⟨rfl, he⟩
      clear q1 q2 q3
      go_wp2_with fail
      go_roundw
      case rel => exact ⟨k + 1, by omega, by go_num, he⟩
      case measure => simp [intOf]; omega
    · have ek : k = L.length := by omega
      subst ek
      go_wp2
      go_ret
      exact ⟨rfl, cb.trans (below_mono hbel cb.size)⟩
end Go.Proofs.YtcldmjjbiifejaaDoor
