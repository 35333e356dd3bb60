/- The contract of Unpack: the numbers of bytes, or none. -/
import Derived.Test.YtcldmjjbiifejaaJust
import Derived.Test.YtcldmjjbiifejaaRefPack
namespace Go.Proofs.Ytcldmjjbiifejaa
open Go.RowKit

theorem unpack_arg (w : World) (v : Value) (z m : Int) (hz : -9223372036854775808 ≤ z ∧ z ≤ 9223372036854775807) (hm : -9223372036854775808 ≤ m ∧ m ≤ 9223372036854775807)
    (hb : ¬ (0 ≤ z ∧ z ≤ 32) ∨ ¬ (0 ≤ m ∧ m ≤ 1048576)) :
    Calls Try.prog 11 #[v, .int .i64 z, .int .i64 m] w fun e w' => e = .returned (.tuple #[.slice none 0 0, .int .i64 1]) ∧ w' = w := by
  by_cases hw : 0 ≤ z ∧ z ≤ 32
  · have hf : ¬ (0 ≤ m ∧ m ≤ 1048576) := hb.resolve_left (fun h => h hw)
    have e : (decide (0 ≤ z) && decide (z ≤ 32)) = true := by simp; omega
    by_cases hm0 : m < 0
    · go_enter Try.func11, Try.ntmps11
      go_wp2_with fail
      refine (isWidth_any w z hz).mono ?_
      rintro e1 w1 ⟨rfl, rfl⟩
      rw [e]
      go_wp2
      go_ret2
      exact ⟨rfl, rfl⟩
    · have hm1 : 1048576 < m := by omega
      go_enter Try.func11, Try.ntmps11
      go_wp2_with fail
      refine (isWidth_any w z hz).mono ?_
      rintro e1 w1 ⟨rfl, rfl⟩
      rw [e]
      go_wp2
      go_ret2
      exact ⟨rfl, rfl⟩
  · have e : (decide (0 ≤ z) && decide (z ≤ 32)) = false := by simp; omega
    go_enter Try.func11, Try.ntmps11
    go_wp2_with fail
    refine (isWidth_any w z hz).mono ?_
    rintro e1 w1 ⟨rfl, rfl⟩
    rw [e]
    go_wp2
    go_ret2
    exact ⟨rfl, rfl⟩

theorem low_and (y wd : Nat) (hy : y < 18446744073709551616) (hw : wd ≤ 32) : bits .and .u64 (y : Int) ((2 : Int) ^ wd - 1) = ((y % 2 ^ wd : Nat) : Int) := by
  have h1 := Nat.two_pow_pos wd
  have h2 : 2 ^ wd ≤ 2 ^ 32 := Nat.pow_le_pow_right (by decide) hw
  have e : (2 : Int) ^ wd - 1 = ((2 ^ wd - 1 : Nat) : Int) := by
    have : ((2 ^ wd : Nat) : Int) = (2 : Int) ^ wd := by norm_cast
    rw [← this]; omega
  rw [e, u64_and_nat _ _ hy (by omega), Nat.and_two_pow_sub_one_eq_mod]

set_option maxHeartbeats 800000 in
theorem unpack_any (w : World) (v : Value) (bs : List Nat) (wd many : Nat) (h : Rds w v (nv .u8 bs)) (hb : Bytes bs) (hw : wd ≤ 32) (hm : many ≤ 5000) :
    Calls Try.prog 11 #[v, .int .i64 wd, .int .i64 many] w fun e w' => (just bs (wd * many) = true → ∃ v', e = .returned (.tuple #[v', .int .i64 0]) ∧
      Own w' w.heap.size 3 v' (nv .i64 (dg wd many (ofd 8 bs)))) ∧ (just bs (wd * many) = false → e = .returned (.tuple #[.slice none 0 0, .int .i64 12])) ∧ Below w.heap.size w w' := by
  have hr := h
  obtain ⟨ao, n, cap, rfl⟩ : ∃ ao n cap, v = .slice ao n cap := by obtain ⟨ao, cap, rfl, _⟩ := h; exact ⟨_, _, _, rfl⟩
  obtain ⟨rfl, h1, h2, h3⟩ := h.cells
  simp only [nv_length] at *
  have hw' : (wd : Int) ≤ 32 := by omega
  have e : (decide (0 ≤ (wd : Int)) && decide ((wd : Int) ≤ 32)) = true := by simp; omega
  have hprod : wd * many ≤ 160000 := by
    have := Nat.mul_le_mul hw hm
    omega
  obtain ⟨TT, hTT⟩ : ∃ TT, TT = wd * many := ⟨_, rfl⟩
  have eT : (wd : Int) * (many : Int) = (TT : Int) := by rw [hTT]; norm_cast
  rw [← hTT] at hprod ⊢
  obtain ⟨N, hNe⟩ : ∃ N, N = ofd 8 bs := ⟨_, rfl⟩
  have hNum : ∀ i, i < bs.length → bs.getD i 0 = N / 2 ^ (8 * i) % 2 ^ 8 := fun i hi => by rw [hNe]; exact (ofd_getD 8 bs hb i hi).symm
  obtain ⟨L, hL⟩ : ∃ L, L = bs.length := ⟨_, rfl⟩
  rw [← hL] at h1 h3 hr hNum ⊢
  rw [← hNe]
  obtain ⟨i0, hin, hz0, hz1, hz2⟩ := info_parts Try.info_int
  have HT := hide hTT
  have HE := hide hNe
  have HU := hide hNum
  have HL := hide hL
  clear hTT hNe hNum hL
  obtain ⟨p, hp⟩ : ∃ p : Nat, p = 2 ^ wd := ⟨_, rfl⟩
  have hp32 : 2 ^ wd ≤ 2 ^ 32 := Nat.pow_le_pow_right (by decide) hw
  have hp0 := Nat.two_pow_pos wd
  rw [← hp] at hp32 hp0
  have hpi : (2 : Int) ^ wd = (p : Int) := by rw [hp]; norm_cast
  have hpl : p ≤ 4294967296 := by omega
  have HP := hide hp
  clear hp hp32
  cases hj : just bs TT
  · have HJ := hide hj
    clear hj
    go_enter Try.func11, Try.ntmps11
    go_wp2_with fail
    refine (isWidth_any w wd (by omega)).mono ?_
    rintro e1 w1 ⟨rfl, rfl⟩
    rw [e]
    go_wp2_with fail
    refine (just_any w1 _ bs TT hr hb (by omega)).mono ?_
    rintro e1 w2 ⟨rfl, rfl⟩
    rw [unhide HJ]
    go_wp2
    go_ret2
    exact ⟨fun hh => by simp at hh, fun _ => rfl, Below.refl _ _⟩
  · have hLT : 8 * L < TT + 8 ∧ TT ≤ 8 * L := by
      unfold just at hj
      simp at hj
      have := hj.1
      have := unhide HL
      omega
    have HJ := hide hj
    clear hj
    go_enter Try.func11, Try.ntmps11
    go_wp2_with fail
    refine (isWidth_any w wd (by omega)).mono ?_
    rintro e1 w1 ⟨rfl, rfl⟩
    rw [e]
    go_wp2_with fail
    refine (just_any w1 _ bs TT hr hb (by omega)).mono ?_
    rintro e1 w2 ⟨rfl, rfl⟩
    rw [unhide HJ]
    go_wp2_with (first
      | (at_make; refine wpList_make_full _ rfl _ _ 22 rfl w2.heap.size 3 i0 (.int .i64 0) 1 Try.underlying22 hin hz0 hz1 .i64 .i64 _ _ many rfl rfl (by omega) (by omega) (by rw [hz2]; omega) (by unfold maxLen; omega) (Nat.le_refl _) ?_; intro w0 hown0 hgrow0))
    have hb0 : Below w2.heap.size w2 w0 := (Below.refl _ _).grown hgrow0 (Nat.le_refl _) (by simp)
    rw [made_nv _ _ 8] at hown0
    clear hgrow0
    go_loopw [10, 11, 12, 38] (fun vh va vx i wr => ∃ k T c : Nat, ∃ xs : List Nat, k ≤ many ∧ i = .int .i64 k ∧ Hid (T = wd * k) ∧ vh = .int .u64 ((N % 2 ^ (8 * c) / 2 ^ T : Nat) : Int) ∧ Hid (T ≤ 8 * c ∧ 8 * c < T + 8) ∧
        va = .int .i64 ((8 * c - T : Nat) : Int) ∧ vx = .int .i64 (c : Int) ∧ Hid (xs.length = many ∧ ∀ i, i < k → xs.getD i 0 = N / 2 ^ (wd * i) % 2 ^ wd) ∧
        wr.ownsRow w2.heap.size 3 1 (.slice (some ⟨w2.heap.size, 0, none⟩) many many) many (nv .i64 xs) ∧ Below w2.heap.size w2 wr) (fun _ _ _ i _ => many - (intOf i).toNat)
    case atStart => exact ⟨0, 0, 0, dg 8 many 0, by omega, rfl, hide (by simp), by simp [Nat.mod_one], hide (by omega), by simp, rfl, hide ⟨dg_length _ _ _, fun i hi => by omega⟩, hown0, hb0⟩
    case round =>
      obtain ⟨k, T, c, xs, hk, rfl, HTk, rfl, HC, rfl, rfl, HX, hown, hbel⟩ := hrel
      by_cases hlt : k < many
      · have hlt' : (k : Int) < (many : Int) := by omega
        have hT : T + wd ≤ TT := by
          rw [unhide HT, unhide HTk, ← Nat.mul_succ]; exact Nat.mul_le_mul_left _ hlt
        go_wp2_with fail
        go_loop [10, 11, 12] (fun vh va vx => ∃ c : Nat, vh = .int .u64 ((N % 2 ^ (8 * c) / 2 ^ T : Nat) : Int) ∧ Hid (T ≤ 8 * c ∧ 8 * c < T + wd + 8) ∧ va = .int .i64 ((8 * c - T : Nat) : Int) ∧ vx = .int .i64 (c : Int)) (fun _ va _ => 100 - (intOf va).toNat)
        case atStart => exact ⟨c, rfl, hide (by have := unhide HC; omega), rfl, rfl⟩
        case round =>
          obtain ⟨c, rfl, HC', rfl, rfl⟩ := hrel
          have hc' := unhide HC'
          obtain ⟨a, ha⟩ : ∃ a, a = 8 * c - T := ⟨_, rfl⟩
          rw [← ha]
          obtain ⟨y, hy⟩ : ∃ y, y = N % 2 ^ (8 * c) / 2 ^ T := ⟨_, rfl⟩
          rw [← hy]
          have hyl : y < 18446744073709551616 := by
            have := more_lt (N := N) (T := 8 * c) (t := T) (m := 40) (by omega)
            rw [hy]; omega
          have hal : a ≤ 40 := by omega
          have hcl : c ≤ 30000 := by omega
          by_cases haw : a < wd
          · have haw' : (a : Int) < (wd : Int) := by omega
            have hcL : c < L := by omega
            obtain ⟨b, off, rfl, hcc⟩ := h3 (by omega)
            have hck := hcc c _ (nv_get .u8 bs c (by rw [← unhide HL]; exact hcL))
            rw [← hbel.cell (World.block_lt_of_cell? _ _ hck), unhide HU c hcL] at hck
            obtain ⟨x, hx⟩ : ∃ x, x = N / 2 ^ (8 * c) % 2 ^ 8 := ⟨_, rfl⟩
            rw [← hx] at hck
            have hxl : x < 256 := by rw [hx]; exact Nat.mod_lt _ (by decide)
            have hmul : x * 2 ^ a < 18446744073709551616 := by
              have h2 : x * 2 ^ a ≤ 2 ^ 8 * 2 ^ a := Nat.mul_le_mul_right _ (by omega)
              rw [← Nat.pow_add] at h2
              have h3 : 2 ^ (8 + a) ≤ 2 ^ 48 := Nat.pow_le_pow_right (by decide) (by omega)
              omega
            have hor : y ||| x * 2 ^ a = N % 2 ^ (8 * (c + 1)) / 2 ^ T := by
              rw [hy, hx, ha]; exact held_more (by omega)
            have hcL' : (c : Int) < (L : Int) := by omega
            have HA := hide ha
            have HO := hide hor
            clear hx ha hy hor hcc hc'
            go_wp2_with fail
            go_round
            case rel =>
              refine ⟨c + 1, congrArg (Value.int .u64) ((or_shl y x a hyl hmul).trans (congrArg Nat.cast (unhide HO))), hide (by have := unhide HA; have := unhide HC'; omega), ?_, by go_num⟩
              rw [show 8 * (c + 1) - T = a + 8 by have := unhide HA; have := unhide HC'; omega]; go_num
            case measure => simp [intOf]; omega
          · have haw' : ¬ (a : Int) < (wd : Int) := by omega
            have hand := low_and y wd hyl hw
            rw [hpi] at hand
            have hlow : y % 2 ^ wd = N / 2 ^ (wd * k) % 2 ^ wd := by
              rw [hy, held_low (by omega), unhide HTk]
            have hdown : y / 2 ^ wd = N % 2 ^ (8 * c) / 2 ^ (T + wd) := by
              rw [hy, held_down]
            have hcell : ∃ u, wr.cell? ⟨w2.heap.size, k, none⟩ = some u := by
              refine ⟨_, (World.ownsRow.cellAt hown k (by omega)).trans (nv_get .i64 xs k (by rw [(unhide HX).1]; exact hlt))⟩
            obtain ⟨u, hcell⟩ := hcell
            have hfr := World.ownsRow.frozenAt hown k
            obtain ⟨m, hmm⟩ : ∃ m, m = y % 2 ^ wd := ⟨_, rfl⟩
            rw [← hmm] at hand hlow
            have hmp : m < p := by rw [hmm, unhide HP]; exact Nat.mod_lt _ (Nat.two_pow_pos _)
            obtain ⟨yd, hyd⟩ : ∃ yd, yd = y / 2 ^ wd := ⟨_, rfl⟩
            rw [← hyd] at hdown
            have eyd : (y : Int) / (p : Int) = (yd : Int) := by rw [hyd, ← unhide HP]; norm_cast
            have hydl : yd ≤ y := by rw [hyd]; exact Nat.div_le_self _ _
            obtain ⟨s1, s2⟩ := World.ownsRow.stored hown k (.int .i64 (m : Int))
            have HLo := hide hlow
            have HD := hide hdown
            have HA := hide ha
            have HS1 := hide s1
            have HS2 := hide s2
            have HT' := hide hT
            clear hlow hdown ha hy hmm hyd s1 s2 hc' hT
            go_wp2_with fail
            go_roundw
            case rel =>
              have hc' := unhide HC'
              refine ⟨k + 1, T + wd, c, xs.set k m, by omega, by go_num, hide (by rw [unhide HTk, Nat.mul_succ]), ?_, hide (by have := unhide HA; omega), ?_, rfl, hide ⟨by rw [List.length_set]; exact (unhide HX).1, ?_⟩, by rw [nv_set]; exact unhide HS1, hbel.grown (unhide HS2) hbel.size (by simp)⟩
              · rw [← unhide HD]
              · rw [show 8 * c - (T + wd) = a - wd by have := unhide HA; omega]; go_num
              · intro i hi
                rw [List.getD_eq_getElem?_getD, List.getElem?_set]
                by_cases hik : k = i
                · subst hik
                  rw [if_pos rfl, if_pos (by rw [(unhide HX).1]; exact hlt), ← unhide HLo]; rfl
                · rw [if_neg hik, ← List.getD_eq_getElem?_getD]
                  exact (unhide HX).2 i (by omega)
            case measure => simp [intOf]; omega
      · have e2 : k = many := by omega
        subst e2
        go_wp2
        go_ret2
        refine ⟨fun _ => ⟨_, rfl, ?_⟩, fun hh => by simp at hh, hbel⟩
        have ex : xs = dg wd k N := dg_ext _ _ _ _ (unhide HX).1 (unhide HX).2
        unfold Own
        rw [nv_length, dg_length, ← ex]; exact hown
end Go.Proofs.Ytcldmjjbiifejaa
