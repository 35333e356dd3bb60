/- The contract of the reference's Unpack. -/
import Derived.Test.YtcldmjjbiifejaaUnpack
namespace Go.Proofs.Ytcldmjjbiifejaa
open Go.RowKit

theorem refunpack_arg (w : World) (v : Value) (z m : Int) (hz : -9223372036854775808 ≤ z ∧ z ≤ 9223372036854775807) (hm : -9223372036854775808 ≤ m ∧ m ≤ 9223372036854775807)
    (hb : ¬ (0 ≤ z ∧ z ≤ 32) ∨ ¬ (0 ≤ m ∧ m ≤ 1048576)) :
    Calls Try.prog 12 #[v, .int .i64 z, .int .i64 m] w fun e w' => e = .returned (.tuple #[.slice none 0 0, .int .i64 1]) ∧ w' = w := by
  by_cases hw0 : z < 0
  · go_enter Try.func12, Try.ntmps12
    go_wp2
    go_ret2
    exact ⟨rfl, rfl⟩
  · by_cases hw1 : 32 < z
    · go_enter Try.func12, Try.ntmps12
      go_wp2
      go_ret2
      exact ⟨rfl, rfl⟩
    · by_cases hm0 : m < 0
      · go_enter Try.func12, Try.ntmps12
        go_wp2
        go_ret2
        exact ⟨rfl, rfl⟩
      · have hm1 : 1048576 < m := by omega
        go_enter Try.func12, Try.ntmps12
        go_wp2
        go_ret2
        exact ⟨rfl, rfl⟩

theorem digit_step (N t wd j : Nat) (hj : j < wd) : 2 * (N / 2 ^ t % 2 ^ wd / 2 ^ (j + 1)) + N / 2 ^ (t + j) % 2 = N / 2 ^ t % 2 ^ wd / 2 ^ j := by
  have h1 := bit_digit N wd 0 j hj
  have h2 : N / 2 ^ (t + j) % 2 = N / 2 ^ t % 2 ^ wd / 2 ^ j % 2 := by
    have := bit_digit (N / 2 ^ t) wd 0 j hj
    simp only [Nat.mul_zero, Nat.pow_zero, Nat.div_one, Nat.zero_add] at this
    rw [this, Nat.div_div_eq_div_mul, ← Nat.pow_add]
  rw [h2, Nat.pow_succ, ← Nat.div_div_eq_div_mul]
  omega

set_option maxHeartbeats 800000 in
theorem refunpack_any (w : World) (v : Value) (bs : List Nat) (wd many : Nat) (h : Rds w v (nv .u8 bs)) (hb : Bytes bs) (hw : wd ≤ 32) (hm : many ≤ 5000) :
    Calls Try.prog 12 #[v, .int .i64 wd, .int .i64 many] w fun e w' => (just bs (wd * many) = true → ∃ v', e = .returned (.tuple #[v', .int .i64 0]) ∧
      Own w' w.heap.size 3 v' (nv .i64 (dg wd many (ofd 8 bs)))) ∧ (just bs (wd * many) = false → e = .returned (.tuple #[.slice none 0 0, .int .i64 12])) ∧ Below w.heap.size w w' := by
  have hr := h
  obtain ⟨ao, n, cap, rfl⟩ : ∃ ao n cap, v = .slice ao n cap := by obtain ⟨ao, cap, rfl, _⟩ := h; exact ⟨_, _, _, rfl⟩
  obtain ⟨rfl, h1, h2, h3⟩ := h.cells
  simp only [nv_length] at *
  have hw' : (wd : Int) ≤ 32 := by omega
  have hprod : wd * many ≤ 160000 := by
    have := Nat.mul_le_mul hw hm
    omega
  obtain ⟨TT, hTT⟩ : ∃ TT, TT = wd * many := ⟨_, rfl⟩
  have eT : (wd : Int) * (many : Int) = (TT : Int) := by rw [hTT]; norm_cast
  rw [← hTT] at hprod ⊢
  obtain ⟨M, hM⟩ : ∃ M, M = (TT + 7) / 8 := ⟨_, rfl⟩
  obtain ⟨N, hNe⟩ : ∃ N, N = ofd 8 bs := ⟨_, rfl⟩
  have hNlt := ofd_lt 8 bs hb
  have hbit := fun w v i => bit_any w v bs i (hb := hb)
  obtain ⟨L, hL⟩ : ∃ L, L = bs.length := ⟨_, rfl⟩
  simp only [← hNe, ← hL] at hbit hNlt
  rw [← hL] at h1 h3 hr ⊢
  rw [← hNe]
  obtain ⟨i0, hin, hz0, hz1, hz2⟩ := info_parts Try.info_int
  have HT := hide hTT
  have HE := hide hNe
  have HL := hide hL
  have HM := hide hM
  have HN := hide hNlt
  clear hTT hNe hL hM hNlt
  have hMl : M ≤ 20001 := by have := unhide HM; omega
  by_cases hlen : L = M
  · have hL8 : L ≤ 20001 := by omega
    have hlen' : (L : Int) = (M : Int) := by omega
    have HLM := hide hlen
    clear hlen
    go_enter Try.func12, Try.ntmps12
    go_wp2_with fail
    refine (long_any w TT (by omega)).mono ?_
    rintro e1 w1 ⟨rfl, rfl⟩
    rw [← unhide HM]
    go_wp2_with fail
    go_loop [8] (fun i => ∃ k : Nat, TT ≤ k ∧ k ≤ 8 * L ∧ i = .int .i64 k ∧ Hid (∀ j, TT ≤ j → j < k → N / 2 ^ j % 2 = 0)) (fun i => 8 * L - (intOf i).toNat)
    case atStart => exact ⟨TT, Nat.le_refl _, by have := unhide HM; have := unhide HLM; omega, rfl, hide (fun j h1 h2 => by omega)⟩
    case round =>
      obtain ⟨k, hk0, hk, rfl, HZ⟩ := hrel
      by_cases hlt : k < 8 * L
      · have hlt' : (k : Int) < 8 * (L : Int) := by omega
        go_wp2_with fail
        refine (hbit w1 _ k hr hlt (by omega)).mono ?_
        rintro e1 w2 ⟨rfl, rfl⟩
        obtain ⟨d, hd⟩ : ∃ d, d = N / 2 ^ k % 2 := ⟨_, rfl⟩
        rw [← hd]
        by_cases hd0 : d = 0
        · subst hd0
          have HD := hide hd
          clear hd
          go_wp2_with fail
          go_round
          case rel => exact ⟨k + 1, by omega, by omega, by go_num, hide (fun j h1 h2 => by
            by_cases hjk : j = k
            · subst hjk; exact (unhide HD).symm
            · exact unhide HZ j h1 (by omega))⟩
          case measure => simp [intOf]; omega
        · have hd1 : ¬ (d : Int) = 0 := by omega
          have HD := hide hd
          clear hd
          go_wp2
          go_ret2
          refine ⟨fun hh => ?_, fun _ => rfl, Below.refl _ _⟩
          unfold just at hh
          simp at hh
          have := bits_of_lt hh.2 hk0
          rw [← unhide HE, ← unhide HD] at this
          exact absurd this hd0
      · have ek : k = 8 * L := by omega
        subst ek
        have hj : just bs TT = true := by
          unfold just
          have e1 := unhide HM; have e2 := unhide HL; have e3 := unhide HLM
          have : ofd 8 bs < 2 ^ TT := by
            rw [← unhide HE]
            exact lt_of_bits (unhide HN) (unhide HZ)
          simp; omega
        have hTL : TT ≤ 8 * L := hk0
        clear hlt
        have HJ := hide hj
        clear hj
        go_wp2_with fail
        go_loopw [9, 10] (fun vo i wr => ∃ k T : Nat, k ≤ many ∧ i = .int .i64 k ∧ Hid (T = wd * k) ∧ Own wr w1.heap.size 3 vo (nv .i64 (dg wd k N)) ∧ Below w1.heap.size w1 wr) (fun _ i _ => many - (intOf i).toNat)
        case atStart => exact ⟨0, 0, by omega, rfl, hide (by simp), World.ownsRow_nil _ _ _ _, Below.refl _ _⟩
        case round =>
          obtain ⟨k, T, hk, rfl, HTk, hown, hbel⟩ := hrel
          by_cases hlt : k < many
          · have hlt' : (k : Int) < (many : Int) := by omega
            have hT : T + wd ≤ TT := by
              rw [unhide HT, unhide HTk, ← Nat.mul_succ]; exact Nat.mul_le_mul_left _ hlt
            have eTk : (wd : Int) * (k : Int) = (T : Int) := by rw [unhide HTk]; norm_cast
            obtain ⟨D, hD⟩ : ∃ D, D = N / 2 ^ T % 2 ^ wd := ⟨_, rfl⟩
            have hDl : D < 2 ^ wd := by rw [hD]; exact Nat.mod_lt _ (Nat.two_pow_pos _)
            have hp32 : 2 ^ wd ≤ 2 ^ 32 := Nat.pow_le_pow_right (by decide) hw
            have hD32 : D < 4294967296 := by omega
            have HD := hide hD
            have HDl := hide hDl
            clear hD hDl hp32
            have hr' := hr.below hbel
            go_wp2_with fail
            go_loop [11, 12] (fun vn vj => ∃ J : Nat, J ≤ wd ∧ vj = .int .i64 ((J : Int) - 1) ∧ vn = .int .i64 ((D / 2 ^ J : Nat) : Int)) (fun _ vj => (intOf vj + 1).toNat)
            case atStart => exact ⟨wd, Nat.le_refl _, rfl, by rw [Nat.div_eq_of_lt (unhide HDl)]; rfl⟩
            case round =>
              obtain ⟨J, hJ, rfl, rfl⟩ := hrel
              by_cases hJ0 : 0 < J
              · obtain ⟨j, rfl⟩ : ∃ j, J = j + 1 := ⟨J - 1, by omega⟩
                have ej : (((j + 1 : Nat) : Int) - 1) = (j : Int) := by omega
                rw [ej]
                have hd := digit_step N T wd j (by omega)
                rw [← unhide HD] at hd
                obtain ⟨x, hx⟩ : ∃ x, x = D / 2 ^ (j + 1) := ⟨_, rfl⟩
                obtain ⟨y, hy⟩ : ∃ y, y = D / 2 ^ j := ⟨_, rfl⟩
                have hxl : x < 4294967296 := by rw [hx]; exact Nat.lt_of_le_of_lt (Nat.div_le_self _ _) hD32
                rw [← hx, ← hy] at hd
                rw [← hx]
                have eTj : (T : Int) + (j : Int) = ((T + j : Nat) : Int) := by omega
                obtain ⟨K, hK⟩ : ∃ K, K = T + j := ⟨_, rfl⟩
                rw [← hK] at eTj hd
                have hKl : K < 8 * L := by omega
                have HK := hide hK
                have HX := hide hx
                have HY := hide hy
                clear hK hx hy
                obtain ⟨d, hd'⟩ : ∃ d, d = N / 2 ^ K % 2 := ⟨_, rfl⟩
                have hb' := hbit wr _ K hr' hKl (by omega)
                rw [← hd'] at hb' hd
                have hd1 : d < 2 := by omega
                have HD1 := hide hd
                have hjw : j ≤ wd := by omega
                clear hd' hd hJ
                go_wp2_with fail
                refine hb'.mono ?_
                rintro e1 w2 ⟨rfl, rfl⟩
                go_wp2_with fail
                go_round
                case rel =>
                  refine ⟨j, hjw, by go_num, ?_⟩
                  rw [← unhide HY, ← unhide HD1]; go_num
                case measure => simp [intOf]
              · have eJ : J = 0 := by omega
                subst eJ
                have eD : D / 2 ^ 0 = D := by simp
                rw [eD]
                have hsz := hbel.size
                clear hJ0
                go_wp2_with (first
                  | (at_builtin; refine wpList_append_own _ rfl _ _ 22 rfl w1.heap.size 3 i0 (.int .i64 0) 1 8 Try.underlying22 hin hz0 hz1 hz2 rfl (by decide) _ _ _ rfl (hown.alloc _) ⟨wr.heap.size, 0, none⟩ 1 1 [.int .i64 (D : Int)] rfl rfl (cell_one_new _ _ _) (by simp [Value.oneCell']) (by simp [maxLen, nv_length, dg_length]; omega) (by simp [nv_length, dg_length]; omega) (by simp; omega) ?_; intro v1 w2 hown1 hgrow1 _)
                  | go_in)
                go_roundw
                case rel =>
                  refine ⟨k + 1, T + wd, by omega, by go_num, hide (by rw [unhide HTk, Nat.mul_succ]), ?_, below_grown hbel (by omega) hown hgrow1⟩
                  rw [dg_succ, ← unhide HTk, ← unhide HD]
                  exact one_more (z := (D : Int)) rfl (by simpa [nv_length] using hown1)
                case measure => simp [intOf]; omega
          · have e2 : k = many := by omega
            subst e2
            go_wp2
            go_ret2
            exact ⟨fun _ => ⟨_, rfl, hown⟩, fun hh => absurd hh (by rw [unhide HJ]; simp), hbel⟩
  · have hj : just bs TT = false := by
      unfold just
      have := unhide HM; have := unhide HL
      rw [decide_eq_false (by omega)]; rfl
    have hne : ¬ (L : Int) = (M : Int) := by omega
    go_enter Try.func12, Try.ntmps12
    go_wp2_with fail
    refine (long_any w TT (by omega)).mono ?_
    rintro e1 w1 ⟨rfl, rfl⟩
    rw [← unhide HM]
    go_wp2
    go_ret2
    exact ⟨fun hh => absurd hh (by rw [hj]; simp), fun _ => rfl, Below.refl _ _⟩
end Go.Proofs.Ytcldmjjbiifejaa
