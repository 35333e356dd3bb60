/- Contracts of the two sums: each is the sum of the bytes, and changes nothing. -/
import Derived.Test.YthegdhbmfojdaaaWNums
namespace Go.Proofs.Ythegdhbmfojdaaa.Wi
open Go.RowKit

set_option maxHeartbeats 400000 in
theorem sum_some (w : World) (l : List UInt8) (b off cap : Nat) (hl : l.length ≤ cap) (hm : cap ≤ maxLen)
    (hc : ∀ i, i < l.length → w.cell? ⟨b, off + i, none⟩ = some (.int .u8 ((l.getD i 0).toNat : Int))) :
    Calls Try.prog 76 #[.slice (some ⟨b, off, none⟩) l.length cap] w fun e w' => e = .returned (.int .u32 (Crc.sum l)) ∧ w' = w := by
  unfold maxLen at hm
  go_enter Try.func76, Try.ntmps76
  go_wp2
  go_loop [3, 9] (fun t i => ∃ k : Nat, k ≤ l.length ∧ i = .int .i64 k ∧ t = .int .u32 (Crc.run (l.take k) : Nat)) (fun _ i => l.length - (intOf i).toNat)
  case atStart => exact ⟨0, Nat.zero_le _, rfl, rfl⟩
  case round =>
    obtain ⟨k, hk, rfl, rfl⟩ := hrel
    by_cases hlt : k < l.length
    · have hcell := hc k hlt
      have hrl := Crc.run_lt (l.take k)
      have hx := Crc.xor_u32 hrl (l[k].toNat_lt)
      have hb1 : Crc.run (l.take k) ^^^ l[k].toNat < 4294967296 := by
        have : Crc.run (l.take k) ^^^ l[k].toNat < 2 ^ 32 := Nat.xor_lt_two_pow (by omega) (by have := l[k].toNat_lt; omega)
        exact this
      have HX : Hid (Crc.run (l.take (k + 1)) = Crc.byte (Crc.run (l.take k)) l[k].toNat) := by
        rw [List.take_succ_eq_append_getElem hlt, Crc.run_snoc]; rfl
      go_wp2
      go_loop [3, 17] (fun t i => ∃ j : Nat, j ≤ 8 ∧ i = .int .i64 j ∧ t = .int .u32 (Crc.mvs j (Crc.run (l.take k) ^^^ l[k].toNat) : Nat)) (fun _ i => 8 - (intOf i).toNat)
      case atStart => exact ⟨0, by omega, rfl, rfl⟩
      case round =>
        obtain ⟨j, hj, rfl, rfl⟩ := hrel
        have hmv := Crc.mvs_lt hb1 j
        by_cases hj8 : j < 8
        · go_wp2
          go_round
          case rel => exact ⟨j + 1, by omega, by go_num, by exact congrArg _ (Crc.mv_u32 hmv)⟩
          case measure => simp [intOf]; omega
        · have e8 : j = 8 := by omega
          clear hj8
          subst e8
          go_wp2
          go_round
          case rel => exact ⟨k + 1, by omega, by go_num, by rw [HX.out]; rfl⟩
          case measure => simp [intOf]; omega
    · have e : l.take k = l := List.take_of_length_le (by omega)
      go_wp2
      go_ret
      exact ⟨ret_int (Crc.not_u32 (Crc.run_lt l)), rfl⟩

set_option maxHeartbeats 400000 in
theorem refsum_some (w : World) (l : List UInt8) (b off cap : Nat) (hl : l.length ≤ cap) (hm : cap ≤ maxLen)
    (hc : ∀ i, i < l.length → w.cell? ⟨b, off + i, none⟩ = some (.int .u8 ((l.getD i 0).toNat : Int))) :
    Calls Try.prog 89 #[.slice (some ⟨b, off, none⟩) l.length cap] w fun e w' => e = .returned (.int .u32 (Crc.sum l)) ∧ w' = w := by
  unfold maxLen at hm
  go_enter Try.func89, Try.ntmps89
  go_wp2
  go_loop [3, 4] (fun t i => ∃ k : Nat, k ≤ l.length ∧ i = .int .i64 k ∧ t = .int .u32 (Crc.run (l.take k) : Nat)) (fun _ i => l.length - (intOf i).toNat)
  case atStart => exact ⟨0, Nat.zero_le _, rfl, rfl⟩
  case round =>
    obtain ⟨k, hk, rfl, rfl⟩ := hrel
    by_cases hlt : k < l.length
    · have hcell := hc k hlt
      have hrl := Crc.run_lt (l.take k)
      have HX : Hid (Crc.run (l.take (k + 1)) = Crc.byte (Crc.run (l.take k)) l[k].toNat) := by
        rw [List.take_succ_eq_append_getElem hlt, Crc.run_snoc]; rfl
      go_wp2
      go_loop [3, 5] (fun t i => ∃ j : Nat, j ≤ 8 ∧ i = .int .i64 j ∧ t = .int .u32 ((Crc.mvs j (Crc.run (l.take k) ^^^ l[k].toNat)) ^^^ (l[k].toNat / 2 ^ j) : Nat)) (fun _ i => 8 - (intOf i).toNat)
      case atStart => exact ⟨0, by omega, rfl, congrArg _ (Crc.ref_start _ _)⟩
      case round =>
        obtain ⟨j, hj, rfl, rfl⟩ := hrel
        by_cases hj8 : j < 8
        · go_wp2
          · have ht := Crc.refstep_yes hrl l[k].toNat_lt (by assumption)
            go_round
            case rel => exact ⟨j + 1, by omega, by go_num, congrArg _ ht⟩
            case measure => simp [intOf]; omega
          · have ht := Crc.refstep_no hrl l[k].toNat_lt (by assumption)
            go_round
            case rel => exact ⟨j + 1, by omega, by go_num, congrArg _ ht⟩
            case measure => simp [intOf]; omega
        · have e8 : j = 8 := by omega
          clear hj8
          subst e8
          go_wp2
          go_round
          case rel => exact ⟨k + 1, by omega, by go_num, by rw [HX.out]; exact congrArg _ (Crc.ref_end _ _ l[k].toNat_lt)⟩
          case measure => simp [intOf]; omega
    · have e : l.take k = l := List.take_of_length_le (by omega)
      go_wp2
      go_ret
      exact ⟨ret_int (Crc.fin_u32 (Crc.run_lt l)), rfl⟩

set_option maxHeartbeats 400000 in
theorem sum_none (w : World) (ao : Option Addr) (cap : Nat) : Calls Try.prog 76 #[.slice ao 0 cap] w fun e w' => e = .returned (.int .u32 (Crc.sum [] : Nat)) ∧ w' = w := by
  go_enter Try.func76, Try.ntmps76
  go_wp2
  refine wp_loop_rounds 1 ?_
  rw [rounds_succ]
  go_wp2
  go_ret
  exact ⟨ret_int (by decide), rfl⟩
set_option maxHeartbeats 400000 in
theorem refsum_none (w : World) (ao : Option Addr) (cap : Nat) : Calls Try.prog 89 #[.slice ao 0 cap] w fun e w' => e = .returned (.int .u32 (Crc.sum [] : Nat)) ∧ w' = w := by
  go_enter Try.func89, Try.ntmps89
  go_wp2
  refine wp_loop_rounds 1 ?_
  rw [rounds_succ]
  go_wp2
  go_ret
  exact ⟨ret_int (by decide), rfl⟩

theorem sum_any (w : World) (v : Value) (l : List UInt8) (h : Reads w v l) : Calls Try.prog 76 #[v] w fun e w' => e = .returned (.int .u32 (Crc.sum l : Nat)) ∧ w' = w := by
  obtain ⟨ao, cap, rfl, _⟩ := id h
  obtain ⟨_, h1, h2, h3⟩ := h.cells
  by_cases h0 : l.length = 0
  · obtain rfl : l = [] := List.eq_nil_of_length_eq_zero h0
    exact sum_none w ao cap
  · obtain ⟨b, off, rfl, hc⟩ := h3 (by omega)
    exact sum_some w l b off cap h1 h2 hc
theorem refsum_any (w : World) (v : Value) (l : List UInt8) (h : Reads w v l) : Calls Try.prog 89 #[v] w fun e w' => e = .returned (.int .u32 (Crc.sum l : Nat)) ∧ w' = w := by
  obtain ⟨ao, cap, rfl, _⟩ := id h
  obtain ⟨_, h1, h2, h3⟩ := h.cells
  by_cases h0 : l.length = 0
  · obtain rfl : l = [] := List.eq_nil_of_length_eq_zero h0
    exact refsum_none w ao cap
  · obtain ⟨b, off, rfl, hc⟩ := h3 (by omega)
    exact refsum_some w l b off cap h1 h2 hc
end Go.Proofs.Ythegdhbmfojdaaa.Wi
