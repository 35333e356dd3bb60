/- Contracts of wordAt and Parse. -/
import Derived.Test.YtcldmjjbiifejaaDoorSetOps
import Derived.Test.YtcldmjjbiifejaaDoorJust
import Derived.Test.YtcldmjjbiifejaaDoorPack
namespace Go.Proofs.YtcldmjjbiifejaaDoor
open Go.RowKit

theorem told_wd {n N : Nat} (h : N < 2 ^ n) : told n (fun i => wd N i) = N := by
  apply Nat.eq_of_testBit_eq
  intro j
  rw [told_bit (fun i => wd_lt N i), wd_bit, show j % 64 + 64 * (j / 64) = j by omega]
  by_cases hj : j < n
  · simp [hj, show j % 64 < 64 by omega]
  · rw [Nat.testBit_lt_two_pow (Nat.lt_of_lt_of_le h (Nat.pow_le_pow_right (by decide) (by omega)))]
    simp
theorem word_more (N f k : Nat) (x : Nat) (hx : x = N / 2 ^ (8 * (f + k)) % 2 ^ 8) : (N / 2 ^ (8 * f) % 2 ^ (8 * k)) ||| x * 2 ^ (8 * k) = N / 2 ^ (8 * f) % 2 ^ (8 * (k + 1)) := by
  have h := held_more (N := N / 2 ^ (8 * f)) (T := 8 * k) (t := 0) (wd := 8) (Nat.zero_le _)
  simp only [Nat.pow_zero, Nat.div_one, Nat.sub_zero] at h
  rw [hx]
  have e : N / 2 ^ (8 * (f + k)) = N / 2 ^ (8 * f) / 2 ^ (8 * k) := by rw [Nat.div_div_eq_div_mul, ← Nat.pow_add, Nat.mul_add]
  rw [e]
  exact h
theorem word_end {bs : List Nat} (hb : Bytes bs) (i c : Nat) (hc : c = 8 ∨ (c < 8 ∧ 8 * i + c = bs.length)) : ofd 8 bs / 2 ^ (8 * (8 * i)) % 2 ^ (8 * c) = wd (ofd 8 bs) i := by
  unfold wd
  rw [show 8 * (8 * i) = 64 * i by omega]
  rcases hc with rfl | ⟨h1, h2⟩
  · rfl
  · have hl := ofd_lt 8 bs hb
    have h3 : ofd 8 bs / 2 ^ (64 * i) < 2 ^ (8 * c) := by
      rw [Nat.div_lt_iff_lt_mul (Nat.two_pow_pos _), ← Nat.pow_add]
      rw [show 8 * c + 64 * i = 8 * bs.length by omega]; exact hl
    have h4 : 2 ^ (8 * c) ≤ 2 ^ 64 := Nat.pow_le_pow_right (by decide) (by omega)
    rw [Nat.mod_eq_of_lt h3, Nat.mod_eq_of_lt (Nat.lt_of_lt_of_le h3 h4)]

set_option maxHeartbeats 800000 in
theorem wordAt_any (w : World) (v : Value) (bs : List Nat) (i : Nat) (h : Rds w v (nv .u8 bs)) (hb : Bytes bs) (hi : 8 * i < bs.length) (hl : bs.length ≤ 1099511627776) :
    Calls Tryd.prog 38 #[v, .int .i64 ((8 * i : Nat) : Int)] w fun e w' => e = .returned (.int .u64 ((wd (ofd 8 bs) i : Nat) : Int)) ∧ ∃ d, w' = w.drewN d := by
  obtain ⟨ao, n, cap, rfl⟩ : ∃ ao n cap, v = .slice ao n cap := by obtain ⟨ao, cap, rfl, _⟩ := h; exact ⟨_, _, _, rfl⟩
  obtain ⟨rfl, h1, h2, h3⟩ := h.cells
  simp only [nv_length] at *
  obtain ⟨b, off, rfl, hc⟩ := h3 (by omega)
  have hN := fun j (hj : j < bs.length) => (ofd_getD 8 bs hb j hj).symm
  obtain ⟨N, hNe⟩ : ∃ N, N = ofd 8 bs := ⟨_, rfl⟩
  obtain ⟨f, hf⟩ : ∃ f, f = 8 * i := ⟨_, rfl⟩
  obtain ⟨L, hL⟩ : ∃ L, L = bs.length := ⟨_, rfl⟩
  obtain ⟨c, hce⟩ : ∃ c, c = min 8 (L - f) := ⟨_, rfl⟩
  have hend := word_end hb i c (by omega)
  simp only [← hNe] at hN hend
  rw [← hNe, ← hf]
  rw [← hf] at hend hi
  rw [← hL] at h1 hl hi ⊢
  have hcells : ∀ j, j < c → w.cell? ⟨b, off + f + j, none⟩ = some (.int .u8 ((N / 2 ^ (8 * (f + j)) % 2 ^ 8 : Nat) : Int)) := by
    intro j hj
    have := hc (f + j) _ (nv_get .u8 bs (f + j) (by omega))
    rw [hN (f + j) (by omega)] at this
    rw [Nat.add_assoc]; exact this
  have hmin : min ((f : Int) + 8) (L : Int) = ((f + c : Nat) : Int) := by omega
  have hcl : c ≤ 8 := by omega
  have hfc : f + c ≤ L := by omega
  have hcp : 0 < c := by omega
  have hcap : ¬ cap = f := by omega
  have hcap2 : f ≤ cap := by omega
  have HE := hide hend
  have HC := hide hcells
  have HL := hide hL
  by_cases h8 : f + 8 ≤ L
  · have ec : c = 8 := by omega
    have h8i : (f : Int) + 8 ≤ (L : Int) := by omega
    clear hend hcells hce hN hNe hf hc h3 h hL hmin
    subst ec
    go_enter Tryd.func38, Tryd.ntmps38
    go_wp2_with fail
    go_loop [5, 17] (fun vw i => ∃ k : Nat, k ≤ 8 ∧ i = .int .i64 k ∧ vw = .int .u64 ((N / 2 ^ (8 * f) % 2 ^ (8 * k) : Nat) : Int)) (fun _ i => 8 - (intOf i).toNat)
    case atStart => exact ⟨0, by omega, rfl, by simp [Nat.mod_one]⟩
    case round =>
      obtain ⟨k, hk, rfl, rfl⟩ := hrel
      by_cases hlt : k < 8
      · have hlt' : (k : Int) < 8 := by omega
        have hck := unhide HC k (by omega)
        obtain ⟨x, hx⟩ : ∃ x, x = N / 2 ^ (8 * (f + k)) % 2 ^ 8 := ⟨_, rfl⟩
        have hwm := word_more N f k x hx
        have hxl : x < 256 := by rw [hx]; exact Nat.mod_lt _ (by decide)
        rw [← hx] at hck
        obtain ⟨s, hs⟩ : ∃ s, s = 8 * k := ⟨_, rfl⟩
        have hsi : (k : Int) * 8 = (s : Int) := by omega
        have hsl : s ≤ 56 := by omega
        rw [← hs] at hwm ⊢
        obtain ⟨y, hy⟩ : ∃ y, y = N / 2 ^ (8 * f) % 2 ^ s := ⟨_, rfl⟩
        have hyl : y < 18446744073709551616 := by
          have h1 : y < 2 ^ s := by rw [hy]; exact Nat.mod_lt _ (Nat.two_pow_pos _)
          have h2 : 2 ^ s ≤ 2 ^ 56 := Nat.pow_le_pow_right (by decide) hsl
          omega
        have hmul : x * 2 ^ s < 18446744073709551616 := by
          have h2 : x * 2 ^ s ≤ 255 * 2 ^ s := Nat.mul_le_mul_right _ (by omega)
          have h3 : 2 ^ s ≤ 2 ^ 56 := Nat.pow_le_pow_right (by decide) hsl
          omega
        rw [← hy] at hwm ⊢
        have HW := hide hwm
        clear hwm hx hy hs
        have e8 : f + 8 - f = 8 := by omega
        go_wp2_with fail
        first | go_quiet (fail) | skip
        go_wp2_with fail
        go_round
        case rel => exact ⟨k + 1, by omega, by go_num, congrArg (Value.int .u64) ((or_shl y x s hyl hmul).trans (congrArg Nat.cast (unhide HW)))⟩
        case measure => simp [intOf]; omega
      · have ek : k = 8 := by omega
        subst ek
        go_wp2
        go_ret
        exact ⟨by rw [← unhide HE]; rfl, 0, rfl⟩
  · have ec : L = f + c := by omega
    have h8i : ¬ (f : Int) + 8 ≤ (L : Int) := by omega
    clear hend hcells hce hN hNe hf hc h3 h hL hmin h8
    subst ec
    go_enter Tryd.func38, Tryd.ntmps38
    go_wp2_with fail
    go_loop [5, 17] (fun vw i => ∃ k : Nat, k ≤ c ∧ i = .int .i64 k ∧ vw = .int .u64 ((N / 2 ^ (8 * f) % 2 ^ (8 * k) : Nat) : Int)) (fun _ i => c - (intOf i).toNat)
    case atStart => exact ⟨0, by omega, rfl, by simp [Nat.mod_one]⟩
    case round =>
      obtain ⟨k, hk, rfl, rfl⟩ := hrel
      by_cases hlt : k < c
      · have hlt' : (k : Int) < (c : Int) := by omega
        have hck := unhide HC k (by omega)
        obtain ⟨x, hx⟩ : ∃ x, x = N / 2 ^ (8 * (f + k)) % 2 ^ 8 := ⟨_, rfl⟩
        have hwm := word_more N f k x hx
        have hxl : x < 256 := by rw [hx]; exact Nat.mod_lt _ (by decide)
        rw [← hx] at hck
        obtain ⟨s, hs⟩ : ∃ s, s = 8 * k := ⟨_, rfl⟩
        have hsi : (k : Int) * 8 = (s : Int) := by omega
        have hsl : s ≤ 56 := by omega
        rw [← hs] at hwm ⊢
        obtain ⟨y, hy⟩ : ∃ y, y = N / 2 ^ (8 * f) % 2 ^ s := ⟨_, rfl⟩
        have hyl : y < 18446744073709551616 := by
          have h1 : y < 2 ^ s := by rw [hy]; exact Nat.mod_lt _ (Nat.two_pow_pos _)
          have h2 : 2 ^ s ≤ 2 ^ 56 := Nat.pow_le_pow_right (by decide) hsl
          omega
        have hmul : x * 2 ^ s < 18446744073709551616 := by
          have h2 : x * 2 ^ s ≤ 255 * 2 ^ s := Nat.mul_le_mul_right _ (by omega)
          have h3 : 2 ^ s ≤ 2 ^ 56 := Nat.pow_le_pow_right (by decide) hsl
          omega
        rw [← hy] at hwm ⊢
        have HW := hide hwm
        clear hwm hx hy hs
        go_wp2_with fail
        first | go_quiet (fail) | skip
        go_wp2_with fail
        go_round
        case rel => exact ⟨k + 1, by omega, by go_num, congrArg (Value.int .u64) ((or_shl y x s hyl hmul).trans (congrArg Nat.cast (unhide HW)))⟩
        case measure => simp [intOf]; omega
      · have ek : k = c := by omega
        subst ek
        go_wp2
        go_ret
        exact ⟨by rw [← unhide HE]; rfl, 0, rfl⟩

theorem parse1_any (w : World) (v : Value) (bs : List Nat) (b1 i : Nat) (hb1 : w.cell? ⟨b1, 0, none⟩ = some v) (h : Rds w v (nv .u8 bs)) (hb : Bytes bs) (hi : 8 * i < bs.length) (hl : bs.length ≤ 1099511627776) :
    Calls Tryd.prog 37 #[.int .i64 i, .pointer (some ⟨b1, 0, none⟩)] w fun e w'' => e = .returned (.int .u64 ((wd (ofd 8 bs) i : Nat) : Int)) ∧ ∃ d, w'' = w.drewN d := by
  have hw := wordAt_any w v bs i h hb hi hl
  obtain ⟨x, hx⟩ : ∃ x, x = wd (ofd 8 bs) i := ⟨_, rfl⟩
  rw [← hx] at hw ⊢
  have hii : (i : Int) * 8 = ((8 * i : Nat) : Int) := by omega
  obtain ⟨f, hf⟩ : ∃ f, f = 8 * i := ⟨_, rfl⟩
  rw [← hf] at hw hii
  obtain ⟨ao, n, cap, rfl⟩ : ∃ ao n cap, v = .slice ao n cap := by obtain ⟨ao, cap, rfl, _⟩ := h; exact ⟨_, _, _, rfl⟩
  have hil : i ≤ 1099511627776 := by omega
  clear hx hf
  go_enter Tryd.func37, Tryd.ntmps37
  go_wp2_with fail
  refine hw.mono ?_
  rintro e1 w1 ⟨rfl, d, rfl⟩
  go_wp2
  go_ret
  exact ⟨by simp, d, rfl⟩

theorem parse_arg (w : World) (v : Value) (z : Int) (hz : -9223372036854775808 ≤ z ∧ z ≤ 9223372036854775807) (hb : ¬ (0 ≤ z ∧ z ≤ 1048576)) (hv : ∃ ao n cap, v = .slice ao n cap) :
    Calls Tryd.prog 15 #[v, .int .i64 z] w fun e w' => e = .returned (.tuple #[.pointer none, .int .i64 1]) ∧ Below w.heap.size w w' := by
  obtain ⟨ao, n, cap, rfl⟩ := hv
  have e : (decide (0 ≤ z) && decide (z ≤ 1048576)) = false := by simp; omega
  go_enter Tryd.func15, Tryd.ntmps15
  go_wp2_with fail
  refine (isRows_any _ z hz).mono ?_
  rintro e1 w1 ⟨rfl, rfl⟩
  rw [e]
  go_wp2
  go_ret2
  exact ⟨rfl, (Below.refl _ _).alloc (Nat.le_refl _) _⟩

set_option maxHeartbeats 400000 in
theorem parse_any (w : World) (v : Value) (bs : List Nat) (n : Nat) (h : Rds w v (nv .u8 bs)) (hb : Bytes bs) (hn : n ≤ 1048576) :
    Calls Tryd.prog 15 #[v, .int .i64 n] w fun e w' => (just bs n = true → ∃ B g, e = .returned (.tuple #[.pointer (some ⟨B, 0, none⟩), .int .i64 0]) ∧ ISet w' 0 (.pointer (some ⟨B, 0, none⟩)) n (ofd 8 bs) B g) ∧
      (just bs n = false → e = .returned (.tuple #[.pointer none, .int .i64 12])) ∧ Below w.heap.size w w' := by
  obtain ⟨ao, nn, cap, rfl⟩ : ∃ ao n cap, v = .slice ao n cap := by obtain ⟨ao, cap, rfl, _⟩ := h; exact ⟨_, _, _, rfl⟩
  have e : (decide (0 ≤ (n : Int)) && decide ((n : Int) ≤ 1048576)) = true := by simp; omega
  obtain ⟨w1, hw1⟩ : ∃ w1, w1 = w.alloc (.cells #[.slice ao nn cap] 36) := ⟨_, rfl⟩
  have hbA : Below w.heap.size w w1 := by rw [hw1]; exact (Below.refl _ _).alloc (Nat.le_refl _) _
  have hrA := h.below hbA
  have hc1 : w1.cell? ⟨w.heap.size, 0, none⟩ = some (.slice ao nn cap) := by
    rw [hw1, World.cell?_alloc_at _ _ _ _ rfl]; rfl
  have hj := just_any w1 _ bs n hrA hb (by omega)
  obtain ⟨j, hje⟩ : ∃ j, j = just bs n := ⟨_, rfl⟩
  rw [← hje] at hj ⊢
  have HJ := hide hje
  clear hje
  cases j
  · go_enter Tryd.func15, Tryd.ntmps15
    go_wp2_with fail
    rw [← hw1]
    refine (isRows_any _ n (by omega)).mono ?_
    rintro e1 w2 ⟨rfl, rfl⟩
    rw [e]
    clear hw1
    go_wp2_with fail
    refine hj.mono ?_
    rintro e1 w3 ⟨rfl, rfl⟩
    go_wp2
    go_ret2
    exact ⟨fun hh => by simp at hh, fun _ => rfl, hbA⟩
  · have hju := unhide HJ
    unfold just at hju
    simp at hju
    obtain ⟨hlen, hlt⟩ := hju
    have hlenb : ∀ i, i < wn n → 8 * i < bs.length := by intro i hi; unfold wn at hi; omega
    have HLB := hide hlenb
    have HLT := hide hlt
    have hlb : bs.length ≤ 1099511627776 := by omega
    clear hlenb hlt hlen
    go_enter Tryd.func15, Tryd.ntmps15
    go_wp2_with fail
    rw [← hw1]
    refine (isRows_any _ n (by omega)).mono ?_
    rintro e1 w2 ⟨rfl, rfl⟩
    rw [e]
    clear hw1
    go_wp2_with fail
    refine hj.mono ?_
    rintro e1 w3 ⟨rfl, rfl⟩
    go_wp2_with fail
    refine (made_parse w3 n _ (fun i => wd (ofd 8 bs) i) hn (fun i => wd_lt _ i) (fun w' hb' i hi => parse1_any w' _ bs w.heap.size i (by rw [hb'.cell (World.block_lt_of_cell? _ _ hc1)]; exact hc1) (hrA.below hb') hb (unhide HLB i hi) hlb)).mono ?_
    rintro e1 w4 ⟨p, B, g, rfl, hs, hb4⟩
    rw [told_wd (unhide HLT)] at hs
    have hp := hs.ptr
    subst hp
    go_wp2
    go_ret2
    exact ⟨fun _ => ⟨_, _, rfl, hs.mono (Nat.zero_le _)⟩, fun hh => by simp at hh, hbA.trans (below_mono hb4 hbA.size)⟩
end Go.Proofs.YtcldmjjbiifejaaDoor
