/- The contract of the reference's Parse. -/
import Derived.Test.YtcldmjjbiifejaaDoorParse
import Derived.Test.YtcldmjjbiifejaaDoorLawMade
namespace Go.Proofs.YtcldmjjbiifejaaDoor
open Go.RowKit

theorem refparse_arg (w : World) (v : Value) (z : Int) (hb : ¬ (0 ≤ z ∧ z ≤ 1048576)) :
    Calls Tryd.prog 16 #[v, .int .i64 z] w fun e w' => e = .returned (.tuple #[.slice none 0 0, .int .i64 1]) ∧ w' = w := by
  by_cases hw0 : z < 0
  · go_enter Tryd.func16, Tryd.ntmps16
    go_wp2
    go_ret2
    exact ⟨rfl, rfl⟩
  · have hw1 : 1048576 < z := by omega
    go_enter Tryd.func16, Tryd.ntmps16
    go_wp2
    go_ret2
    exact ⟨rfl, rfl⟩
theorem bls_succ (n X : Nat) : bls (n + 1) X = bls n X ++ [.bool (X.testBit n)] := by simp [bls, List.range_succ]

set_option maxHeartbeats 800000 in
theorem refparse_any (w : World) (v : Value) (bs : List Nat) (TT : Nat) (h : Rds w v (nv .u8 bs)) (hb : Bytes bs) (hn : TT ≤ 100000) :
    Calls Tryd.prog 16 #[v, .int .i64 TT] w fun e w' => (just bs TT = true → ∃ v', e = .returned (.tuple #[v', .int .i64 0]) ∧
      Own w' w.heap.size 4 v' (bls TT (ofd 8 bs))) ∧ (just bs TT = false → e = .returned (.tuple #[.slice none 0 0, .int .i64 12])) ∧ Below w.heap.size w w' := by
  have hr := h
  obtain ⟨ao, n, cap, rfl⟩ : ∃ ao n cap, v = .slice ao n cap := by obtain ⟨ao, cap, rfl, _⟩ := h; exact ⟨_, _, _, rfl⟩
  obtain ⟨rfl, h1, h2, h3⟩ := h.cells
  simp only [nv_length] at *
  obtain ⟨M, hM⟩ : ∃ M, M = (TT + 7) / 8 := ⟨_, rfl⟩
  obtain ⟨N, hNe⟩ : ∃ N, N = ofd 8 bs := ⟨_, rfl⟩
  have hNlt := ofd_lt 8 bs hb
  have hbit := fun w v i => bit_any w v bs i (hb := hb)
  obtain ⟨L, hL⟩ : ∃ L, L = bs.length := ⟨_, rfl⟩
  simp only [← hNe, ← hL] at hbit hNlt
  rw [← hL] at h1 h3 hr ⊢
  rw [← hNe]
  obtain ⟨i0, hin, hz0, hz1, hz2⟩ := info_parts Tryd.info_bool
  have HE := hide hNe
  have HL := hide hL
  have HM := hide hM
  have HN := hide hNlt
  clear hNe hL hM hNlt
  have hMl : M ≤ 20001 := by have := unhide HM; omega
  by_cases hlen : L = M
  · have hL8 : L ≤ 20001 := by omega
    have hlen' : (L : Int) = (M : Int) := by omega
    have HLM := hide hlen
    clear hlen
    go_enter Tryd.func16, Tryd.ntmps16
    go_wp2_with fail
    refine (long_any w TT (by omega)).mono ?_
    rintro e1 w1 ⟨rfl, rfl⟩
    rw [← unhide HM]
    go_wp2_with fail
    go_loop [6] (fun i => ∃ k : Nat, TT ≤ k ∧ k ≤ 8 * L ∧ i = .int .i64 k ∧ Hid (∀ j, TT ≤ j → j < k → N / 2 ^ j % 2 = 0)) (fun i => 8 * L - (intOf i).toNat)
    case atStart => exact ⟨TT, Nat.le_refl _, by have := unhide HM; have := unhide HLM; omega, rfl, hide (fun j h1 h2 => by omega)⟩
    case round =>
      obtain ⟨k, hk0, hk, rfl, HZ⟩ := hrel
      by_cases hlt : k < 8 * L
      · have hlt' : (k : Int) < 8 * (L : Int) := by omega
        go_wp2_with fail
        refine (hbit w1 _ k hr hlt (by omega)).mono ?_
        rintro e1 w2 ⟨rfl, rfl⟩
        obtain ⟨d, hd⟩ : ∃ d, d = N / 2 ^ k % 2 := ⟨_, rfl⟩
        rw [← hd]
        by_cases hd0 : d = 0
        · subst hd0
          have HD := hide hd
          clear hd
          go_wp2_with fail
          go_round
          case rel => exact ⟨k + 1, by omega, by omega, by go_num, hide (fun j h1 h2 => by
            by_cases hjk : j = k
            · subst hjk; exact (unhide HD).symm
            · exact unhide HZ j h1 (by omega))⟩
          case measure => simp [intOf]; omega
        · have hd1 : ¬ (d : Int) = 0 := by omega
          have HD := hide hd
          clear hd
          go_wp2
          go_ret2
          refine ⟨fun hh => ?_, fun _ => rfl, Below.refl _ _⟩
          unfold just at hh
          simp at hh
          have := bits_of_lt hh.2 hk0
          rw [← unhide HE, ← unhide HD] at this
          exact absurd this hd0
      · have ek : k = 8 * L := by omega
        subst ek
        have hj : just bs TT = true := by
          unfold just
          have e1 := unhide HM; have e2 := unhide HL; have e3 := unhide HLM
          have : ofd 8 bs < 2 ^ TT := by
            rw [← unhide HE]
            exact lt_of_bits (unhide HN) (unhide HZ)
          simp; omega
        have hTL : TT ≤ 8 * L := hk0
        clear hlt
        have HJ := hide hj
        clear hj
        go_wp2_with fail
        go_loopw [7, 8] (fun vo i wr => ∃ k : Nat, k ≤ TT ∧ i = .int .i64 k ∧ Own wr w1.heap.size 4 vo (bls k N) ∧ Below w1.heap.size w1 wr) (fun _ i _ => TT - (intOf i).toNat)
        case atStart => exact ⟨0, by omega, rfl, World.ownsRow_nil _ _ _ _, Below.refl _ _⟩
        case round =>
          obtain ⟨k, hk, rfl, hown, hbel⟩ := hrel
          by_cases hlt : k < TT
          · have hlt' : (k : Int) < (TT : Int) := by omega
            have hb' := hbit wr _ k (hr.below hbel) (by omega) (by omega)
            have hbt := bit_testBit N k
            obtain ⟨d, hd⟩ : ∃ d, d = N / 2 ^ k % 2 := ⟨_, rfl⟩
            rw [← hd] at hb' hbt
            have hbb : N.testBit k = decide (d = 1) := by rw [hbt]; cases N.testBit k <;> rfl
            have hd2 : d = 0 ∨ d = 1 := by omega
            have hsz := hbel.size
            have HB := hide hbb
            clear hd hbt hbb
            rcases hd2 with rfl | rfl
            · go_wp2_with fail
              refine hb'.mono ?_
              rintro e1 w2 ⟨rfl, rfl⟩
              go_wp2_with (first
                | (at_builtin; refine wpList_append_own _ rfl _ _ 26 rfl w1.heap.size 4 i0 (.bool false) 1 1 Tryd.underlying26 hin hz0 hz1 hz2 rfl (by decide) _ _ _ rfl (hown.alloc _) ⟨w2.heap.size, 0, none⟩ 1 1 [.bool false] rfl rfl (cell_one_new _ _ _) (by simp [Value.oneCell']) (by simp [maxLen, bls_length]; omega) (by simp [bls_length]; omega) (by simp; omega) ?_; intro v1 w3 hown1 hgrow1 _)
                | go_in)
              go_roundw
              case rel =>
                refine ⟨k + 1, by omega, by go_num, ?_, below_grown hbel (by omega) hown hgrow1⟩
                have e : N.testBit k = false := unhide HB
                unfold Own; rw [bls_succ, e]; simpa [bls_length] using hown1
              case measure => simp [intOf]; omega
            · go_wp2_with fail
              refine hb'.mono ?_
              rintro e1 w2 ⟨rfl, rfl⟩
              go_wp2_with (first
                | (at_builtin; refine wpList_append_own _ rfl _ _ 26 rfl w1.heap.size 4 i0 (.bool false) 1 1 Tryd.underlying26 hin hz0 hz1 hz2 rfl (by decide) _ _ _ rfl (hown.alloc _) ⟨w2.heap.size, 0, none⟩ 1 1 [.bool true] rfl rfl (cell_one_new _ _ _) (by simp [Value.oneCell']) (by simp [maxLen, bls_length]; omega) (by simp [bls_length]; omega) (by simp; omega) ?_; intro v1 w3 hown1 hgrow1 _)
                | go_in)
              go_roundw
              case rel =>
                refine ⟨k + 1, by omega, by go_num, ?_, below_grown hbel (by omega) hown hgrow1⟩
                have e : N.testBit k = true := unhide HB
                unfold Own; rw [bls_succ, e]; simpa [bls_length] using hown1
              case measure => simp [intOf]; omega
          · have e2 : k = TT := by omega
            subst e2
            go_wp2
            go_ret2
            exact ⟨fun _ => ⟨_, rfl, hown⟩, fun hh => absurd hh (by rw [unhide HJ]; simp), hbel⟩
  · have hj : just bs TT = false := by
      unfold just
      have := unhide HM; have := unhide HL
      rw [decide_eq_false (by omega)]; rfl
    have hne : ¬ (L : Int) = (M : Int) := by omega
    go_enter Tryd.func16, Tryd.ntmps16
    go_wp2_with fail
    refine (long_any w TT (by omega)).mono ?_
    rintro e1 w1 ⟨rfl, rfl⟩
    rw [← unhide HM]
    go_wp2
    go_ret2
    exact ⟨fun hh => absurd hh (by rw [hj]; simp), fun _ => rfl, Below.refl _ _⟩
end Go.Proofs.YtcldmjjbiifejaaDoor
