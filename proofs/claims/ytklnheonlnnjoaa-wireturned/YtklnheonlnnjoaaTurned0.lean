/- The walk of WireTurned. -/
import Derived.Test.YtklnheonlnnjoaaTurnMath
import Derived.Test.YtklnheonlnnjoaaRefFrame
namespace Go.Proofs.Ytklnheonlnnjoaa
open Go.RowKit

theorem Reads.bound' {w : World} {v : Value} {l : List UInt8} (h : Reads w v l) : l.length ≤ 2 ^ 63 - 1 := by
  obtain ⟨ao, cap, _, h1, h2, _⟩ := h
  unfold maxLen at h2
  omega

set_option maxHeartbeats 400000 in
theorem turned_long (w : World) (v : Value) (l : List UInt8) (a E : Int) (h : Reads w v l) (hl : 2000 < l.length) :
    Calls Try.prog 7 #[v, .int .i64 a, .int .u32 E] w fun e w' => e = .returned (.bool true) ∧ Below w.heap.size w w' := by
  obtain ⟨ao, cap, rfl, _⟩ := id h
  have hl' : (2000 : Int) < (l.length : Int) := by omega
  go_enter Try.func7, Try.ntmps7
  go_wp2_with fail
  refine (awake_any w).mono ?_
  rintro e u1 ⟨rfl, hb1⟩
  go_wp2
  go_ret
  exact ⟨rfl, hb1⟩

theorem xor_flip (c : UInt8) (j : Nat) (hj : j < 8) : bits .xor .u8 (c.toNat : Int) (2 ^ j % 256) = (((Four.flip c j).toNat : Nat) : Int) := by
  have h1 : 2 ^ j < 256 := by
    have : 2 ^ j < 2 ^ 8 := Nat.pow_lt_pow_right (by decide) hj
    simpa using this
  have e : (2 : Int) ^ j % 256 = ((2 ^ j : Nat) : Int) := by
    have e1 : (2 : Int) ^ j = ((2 ^ j : Nat) : Int) := by simp
    rw [e1]
    exact Int.emod_eq_of_lt (Int.natCast_nonneg _) (Int.ofNat_lt.2 h1)
  rw [e, Four.flip_nat c j hj]
  exact u8_xor_nat _ _ c.toNat_lt h1
theorem turn_step {wr : World} {base g n cp : Nat} {m : List UInt8} {K : Nat} (hown : wr.ownsRow base 5 1 (.slice (some ⟨g, 0, none⟩) n cp) n (bv m)) :
    (wr.setCell ⟨g, K / 8, none⟩ (.int .u8 (bits .xor .u8 ((m[K / 8]?.getD 0).toNat : Int) (2 ^ (K % 8) % 256)))).ownsRow base 5 1 (.slice (some ⟨g, 0, none⟩) n cp) n (bv (m.set (K / 8) (Four.flip (m.getD (K / 8) 0) (K % 8)))) := by
  have h := (World.ownsRow.stored hown (K / 8) (.int .u8 (bits .xor .u8 ((m[K / 8]?.getD 0).toNat : Int) (2 ^ (K % 8) % 256)))).1
  have e : bv (m.set (K / 8) (Four.flip (m.getD (K / 8) 0) (K % 8))) = (bv m).set (K / 8) (.int .u8 (bits .xor .u8 ((m[K / 8]?.getD 0).toNat : Int) (2 ^ (K % 8) % 256))) := by
    rw [xor_flip _ _ (Nat.mod_lt _ (by decide))]
    simp [bv, List.map_set]
  rw [e]; exact h

theorem and_bit (E i : Nat) (hE : E < 4294967296) : bits .and .u32 ((E : Int) / 2 ^ i) 1 = ((E / 2 ^ i % 2 : Nat) : Int) := by
  have h1 : E / 2 ^ i ≤ E := Nat.div_le_self _ _
  have e : (E : Int) / 2 ^ i = ((E / 2 ^ i : Nat) : Int) := by simp
  rw [e]; exact Crc.and_one (by omega)

set_option maxHeartbeats 800000 in
theorem turned_neg (w : World) (v : Value) (l : List UInt8) (a : Int) (E : Nat) (h : Reads w v l) (hl : l.length ≤ 2000) (ha : a < 0) (ha2 : -9223372036854775808 ≤ a) (hE : E < 4294967296) (hE0 : E ≠ 0) :
    Calls Try.prog 7 #[v, .int .i64 a, .int .u32 E] w fun e w' => e = .returned (.bool true) ∧ Below w.heap.size w w' := by
  have hr := h
  obtain ⟨ao, cap, rfl, _⟩ := id h
  have hl' : ¬ (2000 : Int) < (l.length : Int) := by omega
  have hEb : ((E : Int) == 0) = false := by rw [beq_eq_false_iff_ne]; omega
  go_enter Try.func7, Try.ntmps7
  go_wp2_with fail
  refine (awake_any w).mono ?_
  rintro e u1 ⟨rfl, hb1⟩
  have hr1 := hr.below hb1
  clear h
  go_wp2_with fail
  refine (frame_any _ _ l hr1 (by omega)).mono ?_
  rintro e u2 ⟨v2, rfl, hown2, hb2⟩
  have c2 := hb1.trans (hb2.mono hb1.size)
  obtain ⟨g, cp, hv2, hg2, _⟩ := hown2.some (by rw [framed_length]; omega)
  rw [framed_length, Nat.add_comm] at hv2
  rw [hv2]
  rw [hv2] at hown2
  clear hv2 v2
  go_wp2_with fail
  refine (unframe_ok _ _ (framed l) hown2.reads (unf_framed l (by omega)).1).mono ?_
  rintro e u3 ⟨v3, rfl, hown3, hb3⟩
  rw [(unf_framed l (by omega)).2] at hown3
  have c3 := c2.trans (hb3.mono c2.size)
  have t3 := conv_string u3 v3 _ hown3.reads
  have t0 := conv_string u3 _ _ (hr.below c3)
  have hown4 : u3.ownsRow u1.heap.size 5 1 (.slice (some ⟨g, 0, none⟩) (l.length + 8) cp) (l.length + 8) (bv (framed l)) := by
    have := hown2.below hb3
    unfold Owns at this
    rw [framed_length, Nat.add_comm 8] at this
    exact this
  have hgs : g < u3.heap.size := by
    rcases World.ownsRow.lt hown4 g rfl with ⟨_, h2⟩; exact h2
  have hws : w.heap.size ≤ u1.heap.size := hb1.size
  clear hr hr1 hown2 hown3
  go_wp2
  have hT : ∃ T : Nat, -((a + 1).tmod (8 * ((l.length : Int) + 8) - 31)) = (T : Int) ∧ T + 32 ≤ 8 * (l.length + 8) := by
    have e1 : (-(a + 1)).tmod (8 * ((l.length : Int) + 8) - 31) = -((a + 1).tmod (8 * ((l.length : Int) + 8) - 31)) := Int.neg_tmod _ _
    have e2 := Int.tmod_nonneg (8 * ((l.length : Int) + 8) - 31) (show 0 ≤ -(a + 1) by omega)
    have e3 := Int.tmod_lt_of_pos (-(a + 1)) (show 0 < 8 * ((l.length : Int) + 8) - 31 by omega)
    rw [e1] at e2 e3
    exact ⟨(-((a + 1).tmod (8 * ((l.length : Int) + 8) - 31))).toNat, by omega, by omega⟩
  obtain ⟨T, hT, hTb⟩ := hT
  simp only [hT]
  clear hT t0 t3 hb1 hb2 hb3 c2 ha ha2
  go_loopw [12] (fun vi wr => ∃ (i : Nat) (m : List UInt8), i ≤ 32 ∧ vi = .int .i64 i ∧ m.length = l.length + 8 ∧ Four.num m = Four.num (framed l) ^^^ ((E % 2 ^ i) * 2 ^ T) ∧ wr.ownsRow u1.heap.size 5 1 (.slice (some ⟨g, 0, none⟩) (l.length + 8) cp) (l.length + 8) (bv m) ∧ Below w.heap.size w wr) (fun vi _ => 32 - (intOf vi).toNat)
  case atStart => exact ⟨0, framed l, by omega, rfl, by rw [framed_length]; omega, by simp [Nat.mod_one], hown4, c3⟩
  case round =>
    obtain ⟨i, m, hi, rfl, hml, hnum, hown, hbel⟩ := hrel
    have HN := hide hnum
    have HL := hide hml
    clear hnum hml hown4 c3
    by_cases hlt : i < 32
    · obtain ⟨K, hK, hKn⟩ : ∃ K : Nat, (T : Int) + (i : Int) = (K : Int) ∧ K = T + i := ⟨T + i, by simp, rfl⟩
      have hq : K / 8 < l.length + 8 := by omega
      have hcell : wr.cell? ⟨g, K / 8, none⟩ = some (.int .u8 ((m.getD (K / 8) 0).toNat : Int)) := by
        rw [World.ownsRow.cellAt hown (K / 8) (by omega), bv_get m (K / 8) (by rw [unhide HL]; exact hq)]
      have hfr := World.ownsRow.frozenAt hown (K / 8)
      have hcb := (m.getD (K / 8) 0).toNat_lt
      have HK := hide hKn
      clear hKn
      by_cases hbit : E / 2 ^ i % 2 = 1
      · have hbb : (bits .and .u32 ((E : Int) / 2 ^ i) 1 == 1) = true := by
          rw [and_bit E i hE, hbit]; rfl
        have HB := hide hbit
        clear hbit
        go_wp2
        go_roundw
        case rel =>
          refine ⟨i + 1, m.set (K / 8) (Four.flip (m.getD (K / 8) 0) (K % 8)), by omega, by go_num, by rw [List.length_set]; exact unhide HL, ?_, turn_step hown, hbel.setCell (p := ⟨g, K / 8, none⟩) (by exact Nat.le_trans hws hg2) _⟩
          rw [Four.num_flip m K (by rw [unhide HL]; omega), unhide HN, bits_more E i T (unhide HB), Nat.xor_assoc, unhide HK]
        case measure => simp [intOf]; omega
      · have hbb : (bits .and .u32 ((E : Int) / 2 ^ i) 1 == 1) = false := by
          rw [and_bit E i hE]; rw [beq_eq_false_iff_ne]; omega
        have HB := hide (show E / 2 ^ i % 2 = 0 by omega)
        clear hbit
        go_wp2
        go_roundw
        case rel => exact ⟨i + 1, m, by omega, by go_num, unhide HL, by rw [bits_same E i (unhide HB)]; exact unhide HN, hown, hbel⟩
        case measure => simp [intOf]; omega
    · obtain rfl : i = 32 := by omega
      clear hlt hi
      have hu : unf m ≠ 0 := by
        refine unf_turned l m E T (by omega) (by rw [unhide HL, framed_length]; omega) hE hE0 (by rw [framed_length]; omega) ?_
        have := unhide HN
        rwa [Nat.mod_eq_of_lt (by simpa using hE)] at this
      have ho : Owns wr u1.heap.size (.slice (some ⟨g, 0, none⟩) (l.length + 8) cp) m := by unfold Owns; rw [unhide HL]; exact hown
      have hug : (((unf m : Nat) : Int) != 0) = true := by rw [bne_iff_ne]; omega
      have HU := hide hu
      clear hu
      go_wp2_with fail
      refine (unframe_bad _ _ m ho.reads ho.reads.bound' (unhide HU)).mono ?_
      rintro e u6 ⟨rfl, hb6⟩
      go_wp2
      go_ret
      exact ⟨rfl, hbel.trans (hb6.mono hbel.size)⟩

set_option maxHeartbeats 800000 in
theorem turned_pos (w : World) (v : Value) (l : List UInt8) (a : Int) (E : Nat) (h : Reads w v l) (hl : l.length ≤ 2000) (ha : 0 ≤ a) (ha2 : a ≤ 9223372036854775807) (hE : E < 4294967296) (hE0 : E ≠ 0) :
    Calls Try.prog 7 #[v, .int .i64 a, .int .u32 E] w fun e w' => e = .returned (.bool true) ∧ Below w.heap.size w w' := by
  have hr := h
  obtain ⟨ao, cap, rfl, _⟩ := id h
  have ha' : ¬ a < 0 := by omega
  have hl' : ¬ (2000 : Int) < (l.length : Int) := by omega
  have hEb : ((E : Int) == 0) = false := by rw [beq_eq_false_iff_ne]; omega
  go_enter Try.func7, Try.ntmps7
  go_wp2_with fail
  refine (awake_any w).mono ?_
  rintro e u1 ⟨rfl, hb1⟩
  have hr1 := hr.below hb1
  clear h
  go_wp2_with fail
  refine (frame_any _ _ l hr1 (by omega)).mono ?_
  rintro e u2 ⟨v2, rfl, hown2, hb2⟩
  have c2 := hb1.trans (hb2.mono hb1.size)
  obtain ⟨g, cp, hv2, hg2, _⟩ := hown2.some (by rw [framed_length]; omega)
  rw [framed_length, Nat.add_comm] at hv2
  rw [hv2]
  rw [hv2] at hown2
  clear hv2 v2
  go_wp2_with fail
  refine (unframe_ok _ _ (framed l) hown2.reads (unf_framed l (by omega)).1).mono ?_
  rintro e u3 ⟨v3, rfl, hown3, hb3⟩
  rw [(unf_framed l (by omega)).2] at hown3
  have c3 := c2.trans (hb3.mono c2.size)
  have t3 := conv_string u3 v3 _ hown3.reads
  have t0 := conv_string u3 _ _ (hr.below c3)
  have hown4 : u3.ownsRow u1.heap.size 5 1 (.slice (some ⟨g, 0, none⟩) (l.length + 8) cp) (l.length + 8) (bv (framed l)) := by
    have := hown2.below hb3
    unfold Owns at this
    rw [framed_length, Nat.add_comm 8] at this
    exact this
  have hgs : g < u3.heap.size := by
    rcases World.ownsRow.lt hown4 g rfl with ⟨_, h2⟩; exact h2
  have hws : w.heap.size ≤ u1.heap.size := hb1.size
  clear hr hr1 hown2 hown3
  go_wp2
  have hT : ∃ T : Nat, a % (8 * ((l.length : Int) + 8) - 31) = (T : Int) ∧ T + 32 ≤ 8 * (l.length + 8) := by
    have e2 := Int.emod_nonneg a (show 8 * ((l.length : Int) + 8) - 31 ≠ 0 by omega)
    have e3 := Int.emod_lt_of_pos a (show 0 < 8 * ((l.length : Int) + 8) - 31 by omega)
    exact ⟨(a % (8 * ((l.length : Int) + 8) - 31)).toNat, by omega, by omega⟩
  obtain ⟨T, hT, hTb⟩ := hT
  simp only [hT]
  clear hT t0 t3 hb1 hb2 hb3 c2 ha ha2
  go_loopw [12] (fun vi wr => ∃ (i : Nat) (m : List UInt8), i ≤ 32 ∧ vi = .int .i64 i ∧ m.length = l.length + 8 ∧ Four.num m = Four.num (framed l) ^^^ ((E % 2 ^ i) * 2 ^ T) ∧ wr.ownsRow u1.heap.size 5 1 (.slice (some ⟨g, 0, none⟩) (l.length + 8) cp) (l.length + 8) (bv m) ∧ Below w.heap.size w wr) (fun vi _ => 32 - (intOf vi).toNat)
  case atStart => exact ⟨0, framed l, by omega, rfl, by rw [framed_length]; omega, by simp [Nat.mod_one], hown4, c3⟩
  case round =>
    obtain ⟨i, m, hi, rfl, hml, hnum, hown, hbel⟩ := hrel
    have HN := hide hnum
    have HL := hide hml
    clear hnum hml hown4 c3
    by_cases hlt : i < 32
    · obtain ⟨K, hK, hKn⟩ : ∃ K : Nat, (T : Int) + (i : Int) = (K : Int) ∧ K = T + i := ⟨T + i, by simp, rfl⟩
      have hq : K / 8 < l.length + 8 := by omega
      have hcell : wr.cell? ⟨g, K / 8, none⟩ = some (.int .u8 ((m.getD (K / 8) 0).toNat : Int)) := by
        rw [World.ownsRow.cellAt hown (K / 8) (by omega), bv_get m (K / 8) (by rw [unhide HL]; exact hq)]
      have hfr := World.ownsRow.frozenAt hown (K / 8)
      have hcb := (m.getD (K / 8) 0).toNat_lt
      have HK := hide hKn
      clear hKn
      by_cases hbit : E / 2 ^ i % 2 = 1
      · have hbb : (bits .and .u32 ((E : Int) / 2 ^ i) 1 == 1) = true := by
          rw [and_bit E i hE, hbit]; rfl
        have HB := hide hbit
        clear hbit
        go_wp2
        go_roundw
        case rel =>
          refine ⟨i + 1, m.set (K / 8) (Four.flip (m.getD (K / 8) 0) (K % 8)), by omega, by go_num, by rw [List.length_set]; exact unhide HL, ?_, turn_step hown, hbel.setCell (p := ⟨g, K / 8, none⟩) (by exact Nat.le_trans hws hg2) _⟩
          rw [Four.num_flip m K (by rw [unhide HL]; omega), unhide HN, bits_more E i T (unhide HB), Nat.xor_assoc, unhide HK]
        case measure => simp [intOf]; omega
      · have hbb : (bits .and .u32 ((E : Int) / 2 ^ i) 1 == 1) = false := by
          rw [and_bit E i hE]; rw [beq_eq_false_iff_ne]; omega
        have HB := hide (show E / 2 ^ i % 2 = 0 by omega)
        clear hbit
        go_wp2
        go_roundw
        case rel => exact ⟨i + 1, m, by omega, by go_num, unhide HL, by rw [bits_same E i (unhide HB)]; exact unhide HN, hown, hbel⟩
        case measure => simp [intOf]; omega
    · obtain rfl : i = 32 := by omega
      clear hlt hi
      have hu : unf m ≠ 0 := by
        refine unf_turned l m E T (by omega) (by rw [unhide HL, framed_length]; omega) hE hE0 (by rw [framed_length]; omega) ?_
        have := unhide HN
        rwa [Nat.mod_eq_of_lt (by simpa using hE)] at this
      have ho : Owns wr u1.heap.size (.slice (some ⟨g, 0, none⟩) (l.length + 8) cp) m := by unfold Owns; rw [unhide HL]; exact hown
      have hug : (((unf m : Nat) : Int) != 0) = true := by rw [bne_iff_ne]; omega
      have HU := hide hu
      clear hu
      go_wp2_with fail
      refine (unframe_bad _ _ m ho.reads ho.reads.bound' (unhide HU)).mono ?_
      rintro e u6 ⟨rfl, hb6⟩
      go_wp2
      go_ret
      exact ⟨rfl, hbel.trans (hb6.mono hbel.size)⟩

set_option maxHeartbeats 800000 in
theorem turned_zero (w : World) (v : Value) (l : List UInt8) (a : Int) (h : Reads w v l) (hl : l.length ≤ 2000) :
    Calls Try.prog 7 #[v, .int .i64 a, .int .u32 0] w fun e w' => e = .returned (.bool true) ∧ Below w.heap.size w w' := by
  have hr := h
  obtain ⟨ao, cap, rfl, _⟩ := id h
  have hl' : ¬ (2000 : Int) < (l.length : Int) := by omega
  go_enter Try.func7, Try.ntmps7
  go_wp2_with fail
  refine (awake_any w).mono ?_
  rintro e u1 ⟨rfl, hb1⟩
  have hr1 := hr.below hb1
  clear h
  go_wp2_with fail
  refine (frame_any _ _ l hr1 (by omega)).mono ?_
  rintro e u2 ⟨v2, rfl, hown2, hb2⟩
  have c2 := hb1.trans (hb2.mono hb1.size)
  obtain ⟨g, cp, hv2, hg2, _⟩ := hown2.some (by rw [framed_length]; omega)
  rw [framed_length, Nat.add_comm] at hv2
  rw [hv2]
  rw [hv2] at hown2
  clear hv2 v2
  go_wp2_with fail
  refine (unframe_ok _ _ (framed l) hown2.reads (unf_framed l (by omega)).1).mono ?_
  rintro e u3 ⟨v3, rfl, hown3, hb3⟩
  rw [(unf_framed l (by omega)).2] at hown3
  have c3 := c2.trans (hb3.mono c2.size)
  have t3 := conv_string u3 v3 _ hown3.reads
  have t0 := conv_string u3 _ _ (hr.below c3)
  clear hr hr1 hown2 hown3
  go_wp2
  go_ret
  exact ⟨rfl, c3⟩


theorem turned_any (w : World) (v : Value) (l : List UInt8) (a E : Int) (h : Reads w v l) (h1 : -9223372036854775808 ≤ a) (h2 : a ≤ 9223372036854775807) (h3 : 0 ≤ E) (h4 : E ≤ 4294967295) :
    Calls Try.prog 7 #[v, .int .i64 a, .int .u32 E] w fun e w' => e = .returned (.bool true) ∧ Below w.heap.size w w' := by
  by_cases hl : 2000 < l.length
  · exact turned_long w v l a E h hl
  obtain ⟨N, rfl⟩ := Int.eq_ofNat_of_zero_le h3
  by_cases h0 : N = 0
  · subst h0
    exact turned_zero w v l a h (by omega)
  by_cases ha : a < 0
  · exact turned_neg w v l a N h (by omega) ha h1 (by omega) h0
  · exact turned_pos w v l a N h (by omega) (by omega) h2 (by omega) h0
end Go.Proofs.Ytklnheonlnnjoaa
