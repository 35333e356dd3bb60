/- The contract of Pack: the bytes of numbers that fit, or none. -/
import Derived.Test.YtcldmjjbiifejaaDoorSmall
namespace Go.Proofs.YtcldmjjbiifejaaDoor
open Go.RowKit

/-- The number that numbers of so many bits make. -/
def num (wd : Nat) (l : List Int) : Nat := ofd wd (l.map Int.toNat)
theorem num_lt {wd : Nat} {l : List Int} (h : fits l wd = true) : num wd l < 2 ^ (wd * l.length) := by
  have := ofd_lt wd (l.map Int.toNat) (by
    intro x hx
    obtain ⟨y, hy, rfl⟩ := List.mem_map.1 hx
    have := List.all_eq_true.1 h y hy
    simp at this
    have h2 : ((y.toNat : Nat) : Int) < ((2 ^ wd : Nat) : Int) := by rw [Int.toNat_of_nonneg this.1]; exact_mod_cast this.2
    exact_mod_cast h2)
  unfold num
  simpa using this
theorem num_at {wd : Nat} {l : List Int} (h : fits l wd = true) (k : Nat) (hk : k < l.length) : l.getD k 0 = ((num wd l / 2 ^ (wd * k) % 2 ^ wd : Nat) : Int) := by
  have h2 := ofd_getD wd (l.map Int.toNat) (by
    intro x hx
    obtain ⟨y, hy, rfl⟩ := List.mem_map.1 hx
    have := List.all_eq_true.1 h y hy
    simp at this
    have h2 : ((y.toNat : Nat) : Int) < ((2 ^ wd : Nat) : Int) := by rw [Int.toNat_of_nonneg this.1]; exact_mod_cast this.2
    exact_mod_cast h2) k (by simpa using hk)
  have h3 := (fits_at h hk).1
  unfold num
  rw [h2]
  simp [hk] at h3 ⊢
  omega

theorem or_shl (y x a : Nat) (hy : y < 18446744073709551616) (hm : x * 2 ^ a < 18446744073709551616) :
    bits .or .u64 (y : Int) (IntKind.u64.wrap ((x : Int) * 2 ^ a)) = ((y ||| x * 2 ^ a : Nat) : Int) := by
  have e : (x : Int) * 2 ^ a = ((x * 2 ^ a : Nat) : Int) := by push_cast; rfl
  rw [e, IntWalk.u64_in _ (by omega), u64_or_nat _ _ hy hm]

theorem pack_bad (w : World) (v : Value) (l : List Int) (z : Int) (h : Rds w v (iv l)) (hz : -9223372036854775808 ≤ z ∧ z ≤ 9223372036854775807) (hi : Ints l) (hl : l.length ≤ 5000)
    (hb : ¬ (0 ≤ z ∧ z ≤ 32) ∨ fits l z.toNat = false) :
    Calls Tryd.prog 25 #[v, .int .i64 z] w fun e w' => e = .returned (.tuple #[.slice none 0 0, .int .i64 1]) ∧ w' = w := by
  by_cases hw : 0 ≤ z ∧ z ≤ 32
  · have hf : fits l z.toNat = false := hb.resolve_left (fun h => h hw)
    obtain ⟨wd, rfl⟩ : ∃ wd : Nat, z = wd := ⟨z.toNat, by omega⟩
    simp only [Int.toNat_natCast] at hf
    have e : (decide (0 ≤ (wd : Int)) && decide ((wd : Int) ≤ 32)) = true := by simp; omega
    go_enter Tryd.func25, Tryd.ntmps25
    go_wp2_with fail
    refine (isWidth_any w wd hz).mono ?_
    rintro e1 w1 ⟨rfl, rfl⟩
    rw [e]
    go_wp2_with fail
    refine (allFit_any w1 v l wd h (by omega) hi hl).mono ?_
    rintro e1 w2 ⟨rfl, rfl⟩
    rw [hf]
    go_wp2
    go_ret2
    exact ⟨rfl, rfl⟩
  · have e : (decide (0 ≤ z) && decide (z ≤ 32)) = false := by simp; omega
    go_enter Tryd.func25, Tryd.ntmps25
    go_wp2_with fail
    refine (isWidth_any w z hz).mono ?_
    rintro e1 w1 ⟨rfl, rfl⟩
    rw [e]
    go_wp2
    go_ret2
    exact ⟨rfl, rfl⟩

set_option maxHeartbeats 800000 in
theorem pack_any (w : World) (v : Value) (l : List Int) (wd : Nat) (h : Rds w v (iv l)) (hw : wd ≤ 32) (hi : Ints l) (hl : l.length ≤ 5000) (hf : fits l wd = true) :
    Calls Tryd.prog 25 #[v, .int .i64 wd] w fun e w' => ∃ v', e = .returned (.tuple #[v', .int .i64 0]) ∧
      Own w' w.heap.size 5 v' (nv .u8 (dg 8 ((wd * l.length + 7) / 8) (num wd l))) ∧ Below w.heap.size w w' := by
  have hr := h
  obtain ⟨ao, n, cap, rfl⟩ : ∃ ao n cap, v = .slice ao n cap := by obtain ⟨ao, cap, rfl, _⟩ := h; exact ⟨_, _, _, rfl⟩
  obtain ⟨rfl, h1, h2, h3⟩ := h.cells
  simp only [iv_length] at *
  have hw' : (wd : Int) ≤ 32 := by omega
  have e : (decide (0 ≤ (wd : Int)) && decide ((wd : Int) ≤ 32)) = true := by simp; omega
  have hprod : wd * l.length ≤ 160000 := by
    have := Nat.mul_le_mul hw hl
    omega
  obtain ⟨TT, hTT⟩ : ∃ TT, TT = wd * l.length := ⟨_, rfl⟩
  have eT : (l.length : Int) * (wd : Int) = (TT : Int) := by rw [hTT]; rw [Int.mul_comm]; norm_cast
  rw [← hTT] at hprod
  have hNum := num_at hf
  have hN := num_lt hf
  obtain ⟨N, hNe⟩ : ∃ N, N = num wd l := ⟨_, rfl⟩
  rw [← hNe] at hN ⊢
  simp only [← hNe] at hNum
  rw [← hTT] at hN ⊢
  obtain ⟨i0, hin, hz0, hz1, hz2⟩ := info_parts Tryd.info_u8
  have HT := hide hTT
  have HE := hide hNe
  have HF := hide hf
  have HU := hide hNum
  clear hTT hNe hNum
  go_enter Tryd.func25, Tryd.ntmps25
  go_wp2_with fail
  refine (isWidth_any w wd (by omega)).mono ?_
  rintro e1 w1 ⟨rfl, rfl⟩
  rw [e]
  go_wp2_with fail
  refine (allFit_any w1 _ l wd hr (by omega) hi hl).mono ?_
  rintro e1 w2 ⟨rfl, rfl⟩
  rw [unhide HF]
  go_wp2_with fail
  refine (bytesFor_any w2 TT (by omega)).mono ?_
  rintro e1 w3 ⟨rfl, rfl⟩
  go_wp2_with (first
    | (at_make; refine wpList_make_own _ rfl _ _ 36 rfl w3.heap.size 5 i0 (.int .u8 0) 1 Tryd.underlying36 hin hz0 hz1 .i64 .i64 _ ((TT + 7) / 8) rfl rfl (by omega) (by rw [hz2]; omega) (by unfold maxLen; omega) (Nat.le_refl _) ?_; intro w0 hown0 hgrow0))
  have hb0 : Below w3.heap.size w3 w0 := (Below.refl _ _).grown hgrow0 (Nat.le_refl _) (by simp)
  clear hgrow0
  go_loopw [6, 7, 8, 28] (fun vo vh va i wr => ∃ k T c : Nat, k ≤ l.length ∧ i = .int .i64 k ∧ Hid (T = wd * k) ∧ Hid (8 * c + T % 8 = T) ∧ vh = .int .u64 ((N % 2 ^ T / 2 ^ (8 * c) : Nat) : Int) ∧ va = .int .i64 ((T % 8 : Nat) : Int) ∧
      Own wr w3.heap.size 5 vo (nv .u8 (dg 8 c N)) ∧ Below w3.heap.size w3 wr) (fun _ _ _ i _ => l.length - (intOf i).toNat)
  case atStart => exact ⟨0, 0, 0, by omega, rfl, hide (by simp), hide (by simp), by simp [Nat.mod_one], by simp, hown0, hb0⟩
  case round =>
    obtain ⟨k, T, c, hk, rfl, HTk, HTc, rfl, rfl, hown, hbel⟩ := hrel
    by_cases hlt : k < l.length
    · have hlt' : (k : Int) < (l.length : Int) := by omega
      obtain ⟨b, off, rfl, hc⟩ := h3 (by omega)
      have hck := hc k _ (iv_get l k hlt)
      rw [unhide HU k hlt, ← unhide HTk] at hck
      rw [← hbel.cell (World.block_lt_of_cell? _ _ hck)] at hck
      obtain ⟨x, hx⟩ : ∃ x, x = N / 2 ^ T % 2 ^ wd := ⟨_, rfl⟩
      rw [← hx] at hck
      obtain ⟨a, ha⟩ : ∃ a, a = T % 8 := ⟨_, rfl⟩
      rw [← ha]
      obtain ⟨y, hy⟩ : ∃ y, y = N % 2 ^ T / 2 ^ (8 * c) := ⟨_, rfl⟩
      rw [← hy]
      have hT : T + wd ≤ TT := by
        rw [unhide HT, unhide HTk, ← Nat.mul_succ]; exact Nat.mul_le_mul_left _ hlt
      have hor : y ||| x * 2 ^ a = N % 2 ^ (T + wd) / 2 ^ (8 * c) := by
        have := held_step (N := N) (T := T) (c := c) (wd := wd) (by have := unhide HTc; omega)
        rw [hy, hx, ha]
        rw [show T - 8 * c = T % 8 by have := unhide HTc; omega] at this
        exact this
      have hmul : x * 2 ^ a < 18446744073709551616 := by
        have h1 : x < 2 ^ wd := by rw [hx]; exact Nat.mod_lt _ (Nat.two_pow_pos _)
        have h2 : x * 2 ^ a ≤ 2 ^ wd * 2 ^ a := Nat.mul_le_mul_right _ (Nat.le_of_lt h1)
        rw [← Nat.pow_add] at h2
        have h3 : 2 ^ (wd + a) ≤ 2 ^ 40 := Nat.pow_le_pow_right (by decide) (by omega)
        omega
      have hyl : y < 18446744073709551616 := by
        have := held_lt (N := N) (T := T) (c := c) (m := 8) (by have := unhide HTc; omega)
        rw [hy]; omega
      have hal : a ≤ 7 := by omega
      have hxl : x < 18446744073709551616 := by
        have h1 : x < 2 ^ wd := by rw [hx]; exact Nat.mod_lt _ (Nat.two_pow_pos _)
        have h3 : 2 ^ wd ≤ 2 ^ 40 := Nat.pow_le_pow_right (by decide) (by omega)
        omega
      have HX := hide hx
      have HA := hide ha
      have HY := hide hy
      have HO := hide hor
      clear hx ha hy hor hc
      go_wp2_with fail
      go_loopw [6, 7, 8] (fun vo vh va wr => ∃ c' : Nat, Hid (8 * c' ≤ T + wd ∧ T < 8 * c' + 8) ∧ vh = .int .u64 ((N % 2 ^ (T + wd) / 2 ^ (8 * c') : Nat) : Int) ∧ va = .int .i64 ((T + wd - 8 * c' : Nat) : Int) ∧
        Own wr w3.heap.size 5 vo (nv .u8 (dg 8 c' N)) ∧ Below w3.heap.size w3 wr) (fun _ _ va _ => (intOf va).toNat)
      case atStart =>
        refine ⟨c, hide (by have := unhide HTc; omega), ?_, ?_, hown, hbel⟩
        · first
            | exact congrArg (Value.int .u64) ((or_shl y x a hyl hmul).trans (congrArg Nat.cast (unhide HO)))
            | (simp only [IntWalk.u64_in (x : Int) (by omega), Nat.min_eq_left (show a ≤ 64 by omega)]; exact congrArg (Value.int .u64) ((or_shl y x a hyl hmul).trans (congrArg Nat.cast (unhide HO))))
        · have := unhide HA
          have := unhide HTc
          rw [show T + wd - 8 * c = a + wd by omega]; go_num
      case round =>
        obtain ⟨c', Hc', rfl, rfl, hown', hbel'⟩ := hrel
        obtain ⟨a', ha'⟩ : ∃ a', a' = T + wd - 8 * c' := ⟨_, rfl⟩
        rw [← ha']
        obtain ⟨y', hy'⟩ : ∃ y', y' = N % 2 ^ (T + wd) / 2 ^ (8 * c') := ⟨_, rfl⟩
        rw [← hy']
        have hcT : 8 * c' ≤ 160000 := by have := unhide Hc'; omega
        have hal' : a' ≤ 200000 := by omega
        have hyl' : y' < 18446744073709551616 := by
          have := held_lt (N := N) (T := T + wd) (c := c') (m := 40) (by have := unhide Hc'; omega)
          rw [hy']; omega
        by_cases h8 : 8 ≤ a'
        · have h8' : (8 : Int) ≤ (a' : Int) := by omega
          have hb1 : y' % 256 = N / 2 ^ (8 * c') % 2 ^ 8 := by rw [hy']; exact held_byte (by omega)
          have hb2 : y' / 256 = N % 2 ^ (T + wd) / 2 ^ (8 * (c' + 1)) := by rw [hy']; exact held_shift _ _ _
          have HB1 := hide hb1
          have HB2 := hide hb2
          have HA' := hide ha'
          clear hb1 hb2 hy' ha'
          have hsz := hbel'.size
          go_wp2_with (first
            | (at_builtin; refine wpList_append_own _ rfl _ _ 36 rfl w3.heap.size 5 i0 (.int .u8 0) 1 1 Tryd.underlying36 hin hz0 hz1 hz2 rfl (by decide) _ _ _ rfl (hown'.alloc _) ⟨wr.heap.size, 0, none⟩ 1 1 [.int .u8 ((y' : Int) % 256)] rfl rfl (cell_one_new _ _ _) (by simp [Value.oneCell']) (by simp [maxLen, nv_length, dg_length]; omega) (by simp [nv_length, dg_length]; omega) (by simp; omega) ?_; intro v1 w1 hown1 hgrow1 _)
            | go_in)
          go_roundw
          case rel => 
            refine ⟨c' + 1, hide (by have := unhide HA'; have := unhide Hc'; omega), ?_, ?_, ?_, below_grown hbel' (by omega) hown' hgrow1⟩
            · rw [← unhide HB2]; simp
            · have := unhide HA'; rw [show T + wd - 8 * (c' + 1) = a' - 8 by omega]; go_num
            · rw [dg_succ]; exact one_more (z := (y' : Int) % 256) (by rw [← unhide HB1]; rfl) (by simpa [nv_length] using hown1)
          case measure => simp [intOf]; omega
        · go_wp2_with fail
          go_roundw
          case rel => 
            refine ⟨k + 1, T + wd, c', by omega, by go_num, hide (by rw [unhide HTk, Nat.mul_succ]), hide (by have := unhide Hc'; omega), by rw [hy'], ?_, hown', hbel'⟩
            have := unhide Hc'
            rw [show (T + wd) % 8 = a' by omega]
          case measure => simp [intOf]; omega
    · have e2 : T = TT := by rw [unhide HTk, unhide HT, show k = l.length by omega]
      subst e2
      have hcT : 8 * c ≤ 160000 := by have := unhide HTc; omega
      have hsz := hbel.size
      rw [Nat.mod_eq_of_lt hN]
      obtain ⟨a, ha⟩ : ∃ a, a = T % 8 := ⟨_, rfl⟩
      rw [← ha]
      obtain ⟨y, hy⟩ : ∃ y, y = N / 2 ^ (8 * c) := ⟨_, rfl⟩
      rw [← hy]
      have HY := hide hy
      have HA := hide ha
      clear hy ha
      by_cases h0 : a = 0
      · subst h0
        go_wp2_with fail
        go_ret2
        refine ⟨_, rfl, ?_, hbel⟩
        have := unhide HTc
        have := unhide HA
        rw [show (T + 7) / 8 = c by omega]; exact hown
      · have h0' : (0 : Int) < (a : Int) := by omega
        go_wp2_with (first
            | (at_builtin; refine wpList_append_own _ rfl _ _ 36 rfl w3.heap.size 5 i0 (.int .u8 0) 1 1 Tryd.underlying36 hin hz0 hz1 hz2 rfl (by decide) _ _ _ rfl (hown.alloc _) ⟨wr.heap.size, 0, none⟩ 1 1 [.int .u8 ((y : Int) % 256)] rfl rfl (cell_one_new _ _ _) (by simp [Value.oneCell']) (by simp [maxLen, nv_length, dg_length]; omega) (by simp [nv_length, dg_length]; omega) (by simp; omega) ?_; intro v1 w1 hown1 hgrow1 _)
            | go_in)
        go_ret2
        refine ⟨_, rfl, ?_, below_grown hbel (by omega) hown hgrow1⟩
        have := unhide HTc
        have := unhide HA
        rw [show (T + 7) / 8 = c + 1 by omega, dg_succ]
        exact one_more (z := (y : Int) % 256) (by rw [unhide HY]; simp) (by simpa [nv_length] using hown1)
end Go.Proofs.YtcldmjjbiifejaaDoor
