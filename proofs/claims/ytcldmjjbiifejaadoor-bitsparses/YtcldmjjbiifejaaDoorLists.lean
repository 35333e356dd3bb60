/- Contracts of math/bits.TrailingZeros64, of List and Has. -/
import Derived.Test.YtcldmjjbiifejaaDoorSetOps
import Derived.Test.YtcldmjjbiifejaaDoorListMath
import Derived.Shelf.Spec.TrailingZeros
namespace Go.Proofs.YtcldmjjbiifejaaDoor
open Go.RowKit

theorem tz_any (w : World) (x : Nat) (hx0 : x ≠ 0) (hx : x < 18446744073709551616) (hT : TabAt 0 Lib.deBruijn64tab w) :
    Calls Tryd.prog 44 #[.int .u64 x] w fun e w' => e = .returned (.int .i64 ((Lib.ctz 64 x : Nat) : Int)) ∧ w' = w := by
  obtain ⟨hlow, hk⟩ := Lib.lowest_bit 64 x hx0 hx
  obtain ⟨hi, htab⟩ := Lib.deBruijn64_at _ hk
  have hcell := hT _ hi
  rw [htab] at hcell
  have key := tz64_key x _ hx hx0 hlow
  obtain ⟨k, hke⟩ : ∃ k, k = Lib.ctz 64 x := ⟨_, rfl⟩
  rw [← hke] at hcell key hk ⊢
  obtain ⟨idx, hidx⟩ : ∃ idx, idx = 2 ^ k * 285870213051353865 % 18446744073709551616 / 288230376151711744 := ⟨_, rfl⟩
  rw [← hke, ← hidx] at hi
  rw [← hidx] at hcell key
  have hx0' : ((x : Int) == 0) = false := by simp; omega
  clear hlow htab hke hidx hT
  go_enter Tryd.func44, Tryd.ntmps44
  go_wp2_with (simp only [key])
  go_ret
  exact ⟨by simp, rfl⟩

set_option maxHeartbeats 800000 in
theorem list_any (w : World) (base n X B g : Nat) (p : Value) (h : ISet w base p n X B g) (hT : TabAt 0 Lib.deBruijn64tab w) :
    Calls Tryd.prog 23 #[p] w fun e w' => ∃ v', e = .returned v' ∧ Own w' w.heap.size 3 v' (nv .i64 (lst n X)) ∧ Below w.heap.size w w' := by
  have hn := h.le
  have hcount := count_any w base n X B g p h
  have hp1 := h.ptr
  subst hp1
  have hwords := fun i hi => h.word i hi
  have hc1 := h.words
  obtain ⟨m, hm⟩ : ∃ m, m = wn n := ⟨_, rfl⟩
  have hml : m ≤ 16384 := by rw [hm]; unfold wn; omega
  have hend : lst (64 * m) X = lst n X := lst_ge h.lt (by rw [hm]; unfold wn; omega)
  rw [← hm] at hc1 hwords
  have hcl := cnt_le n X
  obtain ⟨c, hc⟩ : ∃ c, c = cnt n X := ⟨_, rfl⟩
  rw [← hc] at hcl
  simp only [← hc] at hcount
  have HE := hide hend
  have HT := hide hT
  obtain ⟨i0, hin, hz0, hz1, hz2⟩ := info_parts Tryd.info_int
  clear hend hm hc hT
  go_enter Tryd.func23, Tryd.ntmps23
  go_wp2_with fail
  refine hcount.mono ?_
  rintro e1 w1 ⟨rfl, d, hd⟩
  have hb1 : Below w.heap.size w w1 := by rw [hd]; exact below_drewN (Below.refl _ _) d
  have hs1 := hb1.size
  have hc1' : w1.cell? ⟨B, 1, none⟩ = _ := (by rw [hd]; rfl : w1.cell? _ = w.cell? _).trans hc1
  clear hd hcount
  go_wp2_with (first
    | (at_make; refine wpList_make_own _ rfl _ _ 22 rfl w.heap.size 3 i0 (.int .i64 0) 1 Tryd.underlying22 hin hz0 hz1 .i64 .i64 _ c rfl rfl (by omega) (by rw [hz2]; omega) (by unfold maxLen; omega) (by omega) ?_; intro w0 hown0 hgrow0; have hcw0 := hgrow0.cell hc1' (by simp)))
  have hb0 : Below w.heap.size w w0 := hb1.grown hgrow0 (by omega) (by simp)
  have hown0' : Own w0 w.heap.size 3 _ (nv .i64 (lst (64 * 0) X)) := hown0
  clear hgrow0 hown0
  go_loopw [3, 16] (fun vo i wr => ∃ k : Nat, k ≤ m ∧ i = .int .i64 k ∧ Own wr w.heap.size 3 vo (nv .i64 (lst (64 * k) X)) ∧ Below w.heap.size w wr) (fun _ i _ => m - (intOf i).toNat)
  case atStart => exact ⟨0, by omega, rfl, hown0', hb0⟩
  case round =>
    obtain ⟨k, hk, rfl, hown, hbel⟩ := hrel
    by_cases hlt : k < m
    · have hlt' : (k : Int) < (m : Int) := by omega
      have hck := hwords k hlt
      rw [← hbel.cell (World.block_lt_of_cell? _ _ hck)] at hck
      have hcw := hc1
      rw [← hbel.cell (World.block_lt_of_cell? _ _ hcw)] at hcw
      have hl := wd_lt X k
      have hstep : lst (64 * (k + 1)) X = lst (64 * k + 64) X := by rw [Nat.mul_succ]
      have hXb : ∀ j, j < 64 → X.testBit (64 * k + j) = (wd X k).testBit j := by
        intro j hj; rw [wd_bit]; simp [hj, Nat.add_comm]
      obtain ⟨x, hx⟩ : ∃ x, x = wd X k := ⟨_, rfl⟩
      rw [← hx] at hck hl
      simp only [← hx] at hXb
      have HX := hide hXb
      have HS := hide hstep
      have hxl : x < 18446744073709551616 := hl
      clear hXb hstep hx hl hown0' hb0
      go_wp2_with fail
      go_loopw [3, 5] (fun vo vl wr => ∃ t y : Nat, t ≤ 64 ∧ vl = .int .u64 y ∧ y < 18446744073709551616 ∧ Hid (∀ j, y.testBit j = (decide (t ≤ j) && x.testBit j)) ∧ Own wr w.heap.size 3 vo (nv .i64 (lst (64 * k + t) X)) ∧ Below w.heap.size w wr) (fun _ vl _ => (intOf vl).toNat)
      case atStart => exact ⟨0, x, by omega, rfl, hxl, hide (by simp), hown, hbel⟩
      case round =>
        obtain ⟨t, y, ht, rfl, hyl, HY, hown', hbel'⟩ := hrel
        by_cases hy0 : y = 0
        · subst hy0
          have hgap : lst (64 * k + 64) X = lst (64 * k + t) X := by
            have := lst_gap X (64 * k + t) (64 - t) (by
              intro j h1 h2
              obtain ⟨j', rfl⟩ : ∃ j', j = 64 * k + j' := ⟨j - 64 * k, by omega⟩
              rw [unhide HX j' (by omega)]
              have := unhide HY j'
              rw [Nat.zero_testBit] at this
              simp [show t ≤ j' by omega] at this
              exact this)
            rw [show 64 * k + t + (64 - t) = 64 * k + 64 by omega] at this
            exact this
          have HG := hide hgap
          clear hgap
          go_wp2_with fail
          go_roundw
          case rel => exact ⟨k + 1, by omega, by go_num, by rw [unhide HS, unhide HG]; exact hown', hbel'⟩
          case measure => simp [intOf]; omega
        · obtain ⟨kk, hkk, hk64, hb1, hb2, hb3, hb4⟩ := low_bit hy0 hyl
          have htk : t ≤ kk := by
            have := unhide HY kk
            rw [hb1] at this
            simp at this
            exact this.1
          have hxk : x.testBit kk = true := by
            have := unhide HY kk
            rw [hb1] at this
            simp at this
            exact this.2
          have hlst : lst (64 * k + (kk + 1)) X = lst (64 * k + t) X ++ [64 * k + kk] := by
            rw [← Nat.add_assoc, lst_succ, unhide HX kk hk64, hxk]
            have := lst_gap X (64 * k + t) (kk - t) (by
              intro j h1 h2
              obtain ⟨j', rfl⟩ : ∃ j', j = 64 * k + j' := ⟨j - 64 * k, by omega⟩
              rw [unhide HX j' (by omega)]
              have h3 := unhide HY j'
              rw [hb2 j' (by omega)] at h3
              simp [show t ≤ j' by omega] at h3
              exact h3)
            rw [show 64 * k + t + (kk - t) = 64 * k + kk by omega] at this
            rw [this]; simp
          have hbits : ∀ j, (y &&& (y - 1)).testBit j = (decide (kk + 1 ≤ j) && x.testBit j) := by
            intro j
            rw [hb3, unhide HY j]
            by_cases hj : kk + 1 ≤ j
            · simp [hj, show t ≤ j by omega]
            · simp [hj]
          have htab : TabAt 0 Lib.deBruijn64tab wr := fun j hj => (hbel'.cell (World.block_lt_of_cell? _ _ (unhide HT j hj))).trans (unhide HT j hj)
          have htz := tz_any wr y hy0 hyl htab
          rw [hkk] at htz
          have hand := u64_and_nat y (y - 1) hyl (by omega)
          obtain ⟨y', hy'⟩ : ∃ y', y' = y &&& (y - 1) := ⟨_, rfl⟩
          rw [← hy'] at hand hb4
          simp only [← hy'] at hbits
          have hyi : ((y - 1 : Nat) : Int) = (y : Int) - 1 := by omega
          rw [hyi] at hand
          have hll := lst_le (64 * k + t) X
          have hsz := hbel'.size
          have hyne : ¬ (y : Int) = 0 := by omega
          have hyp : 0 < y := by omega
          have hkb : k ≤ 16384 := by omega
          obtain ⟨Lk, hLk⟩ : ∃ Lk, Lk = lst (64 * k + t) X := ⟨_, rfl⟩
          rw [← hLk] at hown' hll hlst
          have HL := hide hlst
          have HB := hide hbits
          clear hlst hbits hb1 hb2 hb3 htab hkk hy' hyi hxk hLk
          go_wp2_with fail
          refine htz.mono ?_
          rintro e1 w2 ⟨rfl, rfl⟩
          go_wp2_with (first
            | (at_builtin; refine wpList_append_own _ rfl _ _ 22 rfl w.heap.size 3 i0 (.int .i64 0) 1 8 Tryd.underlying22 hin hz0 hz1 hz2 rfl (by decide) _ _ _ rfl (hown'.alloc _) ⟨w2.heap.size, 0, none⟩ 1 1 [.int .i64 ((k : Int) * 64 + (kk : Int))] rfl rfl (cell_one_new _ _ _) (by simp [Value.oneCell']) (by simp [maxLen, nv_length]; omega) (by simp [nv_length]; omega) (by simp; omega) ?_; intro v1 w3 hown1 hgrow1 _)
            | go_in)
          go_roundw
          case rel =>
            refine ⟨kk + 1, y', by omega, by go_num, by omega, hide (unhide HB), ?_, below_grown hbel' (by omega) hown' hgrow1⟩
            rw [unhide HL]
            exact one_more (z := (k : Int) * 64 + (kk : Int)) (by omega) (by simpa [nv_length] using hown1)
          case measure => simp [intOf]; omega
    · have ek : k = m := by omega
      subst ek
      go_wp2
      go_ret
      exact ⟨_, rfl, by rw [← unhide HE]; exact hown, hbel⟩

theorem has_any (w : World) (base n X B g : Nat) (p : Value) (z : Int) (h : ISet w base p n X B g) (hz : -9223372036854775808 ≤ z ∧ z ≤ 9223372036854775807) :
    Calls Tryd.prog 20 #[p, .int .i64 z] w fun e w' => e = .returned (.bool (decide (0 ≤ z) && decide (z < n) && X.testBit z.toNat)) ∧ ∃ d, w' = w.drewN d := by
  have hle := h.le
  have hrow := isRow_any w base n X B g p z h hz
  by_cases hin : 0 ≤ z ∧ z < n
  · obtain ⟨r, rfl⟩ : ∃ r : Nat, z = r := ⟨z.toNat, by omega⟩
    have e : (decide (0 ≤ (r : Int)) && decide ((r : Int) < n)) = true := by simp; omega
    rw [e] at hrow ⊢
    simp only [Bool.true_and, Int.toNat_natCast]
    obtain ⟨q, hq⟩ : ∃ q, q = r / 64 := ⟨_, rfl⟩
    obtain ⟨o, ho⟩ : ∃ o, o = r % 64 := ⟨_, rfl⟩
    have hqw : q < wn n := by unfold wn; omega
    have hword := h.word q hqw
    have hc1 := h.words
    have hp := h.ptr
    subst hp
    have hbit : X.testBit r = decide (wd X q / 2 ^ o % 2 = 1) := by
      have h1 : (wd X q).testBit o = X.testBit r := by rw [wd_bit, hq, ho, show r % 64 + 64 * (r / 64) = r by omega]; simp; omega
      rw [← h1, Nat.testBit_eq_decide_div_mod_eq]
    have hwl := wd_lt X q
    obtain ⟨x, hx⟩ : ∃ x, x = wd X q := ⟨_, rfl⟩
    rw [← hx] at hword hbit hwl
    have hxl : x < 18446744073709551616 := hwl
    obtain ⟨y, hy⟩ : ∃ y, y = x / 2 ^ o := ⟨_, rfl⟩
    have hyi : (x : Int) / 2 ^ o = (y : Int) := by rw [hy]; norm_cast
    have hyl : y ≤ x := by rw [hy]; exact Nat.div_le_self _ _
    rw [← hy] at hbit
    have hand := u64_and_nat y 1 (by omega) (by decide)
    rw [Nat.and_one_is_mod] at hand
    have hqi : (r : Int) / 64 = (q : Int) := by omega
    have hoi : (r : Int) % 64 = (o : Int) := by omega
    obtain ⟨m, hm⟩ : ∃ m, m = wn n := ⟨_, rfl⟩
    rw [← hm] at hqw hc1
    have hqm : (q : Int) < (m : Int) := by omega
    have hml : m ≤ 16384 := by rw [hm]; unfold wn; omega
    have hol : o ≤ 63 := by omega
    obtain ⟨u, hu⟩ : ∃ u, u = y % 2 := ⟨_, rfl⟩
    have hand' : bits .and .u64 (y : Int) 1 = (u : Int) := by rw [hu]; exact hand
    rw [← hu] at hbit
    rw [hbit]
    have HU := hide hu
    clear hand hbit hy hx ho hq hm hwl hin hu
    by_cases hu1 : u = 1
    · subst hu1
      go_enter Tryd.func20, Tryd.ntmps20
      go_wp2_with fail
      refine hrow.mono ?_
      rintro e1 w1 ⟨rfl, rfl⟩
      go_wp2
      go_ret
      exact ⟨by simp, 0, rfl⟩
    · have hu0 : u = 0 := by have := unhide HU; omega
      subst hu0
      go_enter Tryd.func20, Tryd.ntmps20
      go_wp2_with fail
      refine hrow.mono ?_
      rintro e1 w1 ⟨rfl, rfl⟩
      go_wp2
      go_ret
      exact ⟨by simp, 0, rfl⟩
  · have e : (decide (0 ≤ z) && decide (z < n)) = false := by simp; omega
    rw [e] at hrow ⊢
    go_enter Tryd.func20, Tryd.ntmps20
    go_wp2_with fail
    refine hrow.mono ?_
    rintro e1 w1 ⟨rfl, rfl⟩
    go_wp2
    go_ret
    exact ⟨by simp, 0, rfl⟩
end Go.Proofs.YtcldmjjbiifejaaDoor
