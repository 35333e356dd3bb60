/- Contracts of the reference's Bytes and of the law's is. -/
import Derived.Test.YtcldmjjbiifejaaDoorCounts0
namespace Go.Proofs.YtcldmjjbiifejaaDoor
open Go.RowKit

theorem mod_bit (X k : Nat) : X % 2 ^ (k + 1) = X % 2 ^ k + 2 ^ k * (X.testBit k).toNat := by
  rw [Nat.pow_succ, Nat.mod_mul, bit_testBit]

set_option maxHeartbeats 800000 in
theorem refbytes_any (w : World) (v : Value) (n X : Nat) (h : Rds w v (bls n X)) (hX : X < 2 ^ n) (hn : n ≤ 100000) :
    Calls Tryd.prog 35 #[v] w fun e w' => ∃ v', e = .returned v' ∧ Own w' w.heap.size 5 v' (nv .u8 (dg 8 ((n + 7) / 8) X)) ∧ Below w.heap.size w w' := by
  obtain ⟨ao, nn, cap, rfl⟩ : ∃ ao n cap, v = .slice ao n cap := by obtain ⟨ao, cap, rfl, _⟩ := h; exact ⟨_, _, _, rfl⟩
  obtain ⟨hnn, h1, h2, h3⟩ := h.cells
  rw [bls_length] at hnn
  subst hnn
  simp only [bls_length] at *
  obtain ⟨M, hM⟩ : ∃ M, M = (nn + 7) / 8 := ⟨_, rfl⟩
  have hMl : M ≤ 20001 := by omega
  rw [← hM]
  obtain ⟨i0, hin, hz0, hz1, hz2⟩ := info_parts Tryd.info_u8
  have HM := hide hM
  clear hM h
  go_enter Tryd.func35, Tryd.ntmps35
  go_wp2_with fail
  refine (long_any w nn (by omega)).mono ?_
  rintro e1 w3 ⟨rfl, rfl⟩
  rw [← unhide HM]
  go_wp2_with (first
    | (at_make; refine wpList_make_full _ rfl _ _ 36 rfl w3.heap.size 5 i0 (.int .u8 0) 1 Tryd.underlying36 hin hz0 hz1 .i64 .i64 _ _ M rfl rfl (by omega) (by omega) (by rw [hz2]; omega) (by unfold maxLen; omega) (Nat.le_refl _) ?_; intro w0 hown0 hgrow0))
  have hb0 : Below w3.heap.size w3 w0 := (Below.refl _ _).grown hgrow0 (Nat.le_refl _) (by simp)
  rw [made_nv _ _ 8] at hown0
  clear hgrow0
  go_loopw [4] (fun i wr => ∃ k : Nat, k ≤ nn ∧ i = .int .i64 k ∧ wr.ownsRow w3.heap.size 5 1 (.slice (some ⟨w3.heap.size, 0, none⟩) M M) M (nv .u8 (dg 8 M (X % 2 ^ k))) ∧ Below w3.heap.size w3 wr) (fun i _ => nn - (intOf i).toNat)
  case atStart => exact ⟨0, by omega, rfl, by simpa [Nat.mod_one] using hown0, hb0⟩
  case round =>
    obtain ⟨a, hk, rfl, hown, hbel⟩ := hrel
    by_cases hlt : a < nn
    · have hlt' : (a : Int) < (nn : Int) := by omega
      obtain ⟨b, off, rfl, hc⟩ := h3 (by omega)
      have hck := hc a _ (bls_get nn X a hlt)
      rw [← hbel.cell (World.block_lt_of_cell? _ _ hck)] at hck
      have hmb := mod_bit X a
      clear hc h3
      by_cases hbit : X.testBit a = true
      · rw [hbit] at hck hmb
        simp at hmb
        obtain ⟨q, hq⟩ : ∃ q, q = a / 8 := ⟨_, rfl⟩
        obtain ⟨r, hr⟩ : ∃ r, r = a % 8 := ⟨_, rfl⟩
        have hqi : (a : Int) / 8 = (q : Int) := by omega
        have hri : (a : Int) % 8 = (r : Int) := by omega
        have hqM : q < M := by have := unhide HM; omega
        have hcq := World.ownsRow.cellAt hown q (by omega)
        rw [nv_get _ _ _ (by rw [dg_length]; exact hqM)] at hcq
        have hfr := World.ownsRow.frozenAt hown q
        have hPl : X % 2 ^ a < 2 ^ a := Nat.mod_lt _ (Nat.two_pow_pos _)
        have hsum := dg_bit_lt (m := M) hPl (by rw [← hq]; exact hqM)
        have hdd := dg_add_bit (m := M) hPl
        rw [← hq, ← hr] at hsum hdd
        obtain ⟨cu, hcu⟩ : ∃ cu, cu = (dg 8 M (X % 2 ^ a)).getD q 0 := ⟨_, rfl⟩
        rw [← hcu] at hcq hsum hdd
        rw [← hmb] at hdd
        obtain ⟨s1, s2⟩ := World.ownsRow.stored hown q (.int .u8 (((cu : Int) + 2 ^ r) % 256))
        have e : ((cu : Int) + 2 ^ r) % 256 = ((cu + 2 ^ r : Nat) : Int) := by
          have e2 : ((2 ^ r : Nat) : Int) = (2 : Int) ^ r := by norm_cast
          rw [← e2]
          generalize 2 ^ r = rr at *
          omega
        have s3 : (nv .u8 (dg 8 M (X % 2 ^ a))).set q (.int .u8 (((cu : Int) + 2 ^ r) % 256)) = nv .u8 (dg 8 M (X % 2 ^ (a + 1))) := by
          rw [e, ← nv_set, hdd]
        rw [s3] at s1
        have hr7 : r ≤ 7 := by omega
        have hqMi : (q : Int) < (M : Int) := by omega
        have HS1 := hide s1
        have HS2 := hide s2
        clear s1 s2 s3 e hdd hmb hcu hq hr hPl hbit
        go_wp2_with fail
        first | go_region | skip
        all_goals
          go_wp2_with fail
          go_roundw
          case rel => exact ⟨a + 1, by omega, by go_num, unhide HS1, below_like (hbel.grown (unhide HS2) hbel.size (by simp)) rfl rfl rfl rfl⟩
          case measure => simp [intOf]; omega
      · rw [Bool.not_eq_true] at hbit
        rw [hbit] at hck hmb
        simp at hmb
        have HMB := hide hmb
        clear hbit hmb
        go_wp2_with fail
        go_roundw
        case rel => exact ⟨a + 1, by omega, by go_num, by rw [unhide HMB]; exact hown, hbel⟩
        case measure => simp [intOf]; omega
    · have e2 : a = nn := by omega
      subst e2
      go_wp2
      go_ret
      rw [Nat.mod_eq_of_lt hX] at hown
      refine ⟨_, rfl, ?_, hbel⟩
      unfold Own
      rw [nv_length, dg_length]; exact hown

theorem rows_set (w : World) (n X B g : Nat) (h : ISet w 0 (.pointer (some ⟨B, 0, none⟩)) n X B g) : Calls Tryd.prog 22 #[.pointer (some ⟨B, 0, none⟩)] w fun e w' => e = .returned (.int .i64 (n : Int)) ∧ w' = w := by
  have hc0 := h.rows
  go_enter Tryd.func22, Tryd.ntmps22
  go_wp2
  go_ret
  simp
theorem has_at {W w' : World} {K n X B g : Nat} (z : Int) (t : Bool) (hz : -9223372036854775808 ≤ z ∧ z ≤ 9223372036854775807) (ht : (decide (0 ≤ z) && decide (z < n) && X.testBit z.toNat) = t) (hs : ISet w' 0 (.pointer (some ⟨B, 0, none⟩)) n X B g) (hb : Below K W w') :
    Calls Tryd.prog 20 #[.pointer (some ⟨B, 0, none⟩), .int .i64 z] w' fun e w'' => e = .returned (.bool t) ∧ Below K W w'' ∧ Below w'.heap.size w' w'' := by
  refine (has_any w' 0 n X B g _ z hs hz).mono ?_
  rintro e w'' ⟨rfl, d, rfl⟩
  exact ⟨by rw [ht], below_drewN hb d, below_drewN (Below.refl _ _) d⟩
theorem has_row {W w' : World} {K n X B g r : Nat} (hr : r < n) (hs : ISet w' 0 (.pointer (some ⟨B, 0, none⟩)) n X B g) (hb : Below K W w') :
    Calls Tryd.prog 20 #[.pointer (some ⟨B, 0, none⟩), .int .i64 (r : Int)] w' fun e w'' => e = .returned (.bool (X.testBit r)) ∧ Below K W w'' ∧ Below w'.heap.size w' w'' := by
  have hle := hs.le
  refine has_at r _ (by omega) ?_ hs hb
  have h1 : decide (0 ≤ (r : Int)) = true := by simp
  have h2 : decide ((r : Int) < (n : Int)) = true := by simp; omega
  rw [h1, h2, Int.toNat_natCast]; simp

set_option maxHeartbeats 8000000 in
theorem is_any (w : World) (v : Value) (n X B g : Nat) (hs : ISet w 0 (.pointer (some ⟨B, 0, none⟩)) n X B g) (h : Rds w v (bls n X)) (hT : TabAt 0 Lib.deBruijn64tab w) (hn : n ≤ 100000) :
    Calls Tryd.prog 14 #[.pointer (some ⟨B, 0, none⟩), v] w fun e w' => e = .returned (.bool true) ∧ Below w.heap.size w w' := by
  have hX := hs.lt
  have hrd := h
  obtain ⟨ao, nn, cap, rfl⟩ : ∃ ao n cap, v = .slice ao n cap := by obtain ⟨ao, cap, rfl, _⟩ := h; exact ⟨_, _, _, rfl⟩
  obtain ⟨hnn, h1, h2, h3⟩ := h.cells
  rw [bls_length] at hnn
  subst hnn
  simp only [bls_length] at *
  obtain ⟨i0, hin, hz0, hz1, hz2⟩ := info_parts Tryd.info_int
  have HT := hide hT
  have HR := hide hrd
  clear hT h hrd
  go_enter Tryd.func14, Tryd.ntmps14
  go_wp2_with fail
  refine (rows_set w _ _ _ _ hs).mono ?_
  rintro e1 w1 ⟨rfl, rfl⟩
  go_wp2_with fail
  go_loopw [5, 6] (fun vo i wr => ∃ k : Nat, k ≤ nn ∧ i = .int .i64 k ∧ Own wr w1.heap.size 3 vo (nv .i64 (lst k X)) ∧ Below w1.heap.size w1 wr) (fun _ i _ => nn - (intOf i).toNat)
  case atStart => exact ⟨0, by omega, rfl, World.ownsRow_nil _ _ _ _, Below.refl _ _⟩
  case round =>
    obtain ⟨k, hk, rfl, hown, hbel⟩ := hrel
    by_cases hlt : k < nn
    · have hlt' : (k : Int) < (nn : Int) := by omega
      obtain ⟨b, off, rfl, hc⟩ := h3 (by omega)
      have hck := hc k _ (bls_get nn X k hlt)
      have hlb := World.block_lt_of_cell? _ _ hck
      have hcell := fun w' (hh : Below w1.heap.size w1 w') => (hh.cell hlb).trans hck
      have q1 := hcell wr hbel
      have kH := fun w' (hh : Below w1.heap.size w1 w') => has_row hlt (hs.below hh) hh
      have hls := lst_succ k X
      have hll := lst_le k X
      have b0 : Below w1.heap.size w1 wr.drew := hbel.drew
      have hsz := hbel.size
      clear hc hck h3 hs
      by_cases hbit : X.testBit k = true
      · rw [hbit] at q1 hls
        simp only [hbit] at hcell kH
        simp only [if_pos] at hls
        obtain ⟨L, hL⟩ : ∃ L, L = lst k X := ⟨_, rfl⟩
        rw [← hL] at hown hll hls
        have HL := hide hls
        clear hls hL hbit
        go_wp2_with fail
        go_region_with (first | (go_at_call 20; refine (kH _ (by assumption)).mono ?_; rintro e1 w2 ⟨rfl, hb2, hd2⟩; have q2 := hcell w2 hb2; have hown2 : Own w2 _ _ _ _ := Own.below (w := wr.drew) hown hd2))
        all_goals
          have hsz2 := hb2.size
          go_wp2_with (first
            | (at_builtin; refine wpList_append_own _ rfl _ _ 22 rfl w1.heap.size 3 i0 (.int .i64 0) 1 8 Tryd.underlying22 hin hz0 hz1 hz2 rfl (by decide) _ _ _ rfl (hown2.alloc _) ⟨w2.heap.size, 0, none⟩ 1 1 [.int .i64 (k : Int)] rfl rfl (cell_one_new _ _ _) (by simp [Value.oneCell']) (by simp [maxLen, nv_length]; omega) (by simp [nv_length]; omega) (by simp; omega) ?_; intro v1 w3 hown3 hgrow3 _)
            | go_in)
          go_roundw
          case rel => exact ⟨k + 1, by omega, by go_num, by rw [unhide HL]; exact one_more (z := (k : Int)) rfl (by simpa [nv_length] using hown3), below_grown hb2 (by omega) hown2 hgrow3⟩
          case measure => simp [intOf]; omega
      · rw [Bool.not_eq_true] at hbit
        rw [hbit] at q1 hls
        simp only [hbit] at hcell kH
        simp at hls
        have HL := hide hls
        clear hls hbit
        go_wp2_with fail
        go_region_with (first | (go_at_call 20; refine (kH _ (by assumption)).mono ?_; rintro e1 w2 ⟨rfl, hb2, hd2⟩; have q2 := hcell w2 hb2; have hown2 : Own w2 _ _ _ _ := Own.below (w := wr.drew) hown hd2))
        all_goals
          go_wp2_with fail
          go_roundw
          case rel => exact ⟨k + 1, by omega, by go_num, by rw [unhide HL]; exact hown2, hb2⟩
          case measure => simp [intOf]; omega
    · have ek : k = nn := by omega
      subst ek
      obtain ⟨wc, hwc⟩ : ∃ wc, wc = wr := ⟨_, rfl⟩
      rw [← hwc] at hown hbel ⊢
      clear hwc
      have iS := hs.below hbel
      have hTc := tab_below (unhide HT) hbel
      have hRc := (unhide HR).below hbel
      have hcl := lst_length k X
      have hll := lst_le k X
      have rl := hown.rds
      obtain ⟨av, cv, hshape⟩ : ∃ a c, u5 = .slice a (cnt k X) c := by
        obtain ⟨a, c, e, _⟩ := rl
        rw [nv_length, hcl] at e
        exact ⟨a, c, e⟩
      subst hshape
      obtain ⟨c, hc⟩ : ∃ c, c = cnt k X := ⟨_, rfl⟩
      rw [← hc] at hown rl hcl ⊢
      have kC := fun w' (hh : Below wc.heap.size wc w') => count_at c hc.symm (iS.below hh) hh
      have kL := fun w' (hh : Below wc.heap.size wc w') => list_at (iS.below hh) (tab_below hTc hh) hh hh.size
      rw [← iv_nat] at rl
      have kM := fun w' v1 (hh : Below wc.heap.size wc w') (r1 : Rds w' v1 (nv .i64 (lst k X))) => (same_any w' v1 _ _ (by rw [iv_nat]; exact r1) (rl.below hh) (by simp; omega)).mono (fun e w'' (hq : e = .returned (.bool true) ∧ ∃ m, w'' = w'.drewN m) => (⟨hq.1, by obtain ⟨m, hm⟩ := hq.2; rw [hm]; exact below_drewN hh m⟩ : e = .returned (.bool true) ∧ Below wc.heap.size wc w''))
      have kN := fun w' (hh : Below wc.heap.size wc w') => has_at (-1) false (by omega) (by simp) (iS.below hh) hh
      have kE := fun w' (hh : Below wc.heap.size wc w') => has_at (k : Int) false (by omega) (by simp) (iS.below hh) hh
      have kB := fun w' (hh : Below wc.heap.size wc w') => bytes_at (iS.below hh) hh hh.size
      have kR := fun w' (hh : Below wc.heap.size wc w') => (refbytes_any w' _ k X (hRc.below hh) hX (by omega)).mono (fun e w'' (hq : ∃ v', e = .returned v' ∧ Own w'' w'.heap.size 5 v' (nv .u8 (dg 8 ((k + 7) / 8) X)) ∧ Below w'.heap.size w' w'') => (by obtain ⟨v', q1, q2, q3⟩ := hq; exact ⟨v', q1, q2.rds, hh.trans (below_mono q3 hh.size), q3⟩ : ∃ v', e = .returned v' ∧ Rds w'' v' (nv .u8 (dg 8 ((k + 7) / 8) X)) ∧ Below wc.heap.size wc w'' ∧ Below w'.heap.size w' w''))
      obtain ⟨L, hL⟩ : ∃ L, L = dg 8 ((k + 7) / 8) X := ⟨_, rfl⟩
      have hLl : ∀ x ∈ L, x < 2 ^ 8 := by rw [hL]; exact dg_lt _ _ _
      simp only [← hL] at kB kR
      obtain ⟨S, hS⟩ : ∃ S : ByteArray, S = ⟨(byt L).toArray⟩ := ⟨_, rfl⟩
      have cv := fun (w' : World) (v : Value) (hh : Rds w' v (nv .u8 L)) => conv_string w' v L hLl hh
      simp only [← hS] at cv
      have b0 : Below wc.heap.size wc wc.drew := (Below.refl _ _).drew
      clear hS hLl hL hc hown rl iS hTc hRc hcl hll h3 hs
      go_wp2_with fail
      go_region_with (first
        | (go_at_call 21; with_reducible refine (kC _ (by assumption)).mono ?_; rintro e1 wd ⟨rfl, cd, dd⟩)
        | (go_at_call 23; with_reducible refine (kL _ (by assumption)).mono ?_; rintro e1 we ⟨vL, rfl, rL, ce, de⟩)
        | (go_at_call 34; with_reducible refine (kM _ _ (by assumption) (by assumption)).mono ?_; rintro e1 wf ⟨rfl, cf⟩)
        | (go_at_call 20; with_reducible refine (kN _ (by assumption)).mono ?_; rintro e1 wg ⟨rfl, cg, dg'⟩)
        | (go_at_call 20; with_reducible refine (kE _ (by assumption)).mono ?_; rintro e1 wh ⟨rfl, ch, dh⟩)
        | (go_at_call 24; with_reducible refine (kB _ (by assumption)).mono ?_; rintro e1 wi ⟨vB, rfl, rB, ci, di⟩; have t1 := cv wi vB rB)
        | (go_at_call 35; with_reducible refine (kR _ (by assumption)).mono ?_; rintro e1 wj ⟨vR, rfl, rR, cj, dj⟩; have t2 := cv wj vR rR; have t3 := cv wj vB (rB.below dj)))
      all_goals
        go_wp2
        go_ret
        refine ⟨?_, hbel.trans (below_mono cj hbel.size)⟩
        first
          | rfl
          | simp
end Go.Proofs.YtcldmjjbiifejaaDoor
