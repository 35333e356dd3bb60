/- Contracts of the reference's Uint, Int and Text. -/
import Derived.Test.YtpdlioidiobbbaaTexts
namespace Go.Proofs.Ytpdlioidiobbbaa
open Go.RowKit

theorem ref_low (m : Nat) : (m : Int) % 128 + 128 = (((UInt8.ofNat (m % 128 + 128)).toNat : Nat) : Int) := by
  simp [UInt8.toNat_ofNat']; omega
theorem ref_last (m : Nat) (h : m < 128) : (m : Int) % 128 = (((UInt8.ofNat m).toNat : Nat) : Int) := by
  simp [UInt8.toNat_ofNat']; omega

theorem refu_step {w wr w1 : World} {base : Nat} {u v1 : Value} {pre : List UInt8} {f m n : Nat} {o : Obj} {z : Int} (hU : Num.uv n = pre ++ Num.uvF f m) (hf : m < 128 ^ (f + 1)) (h128 : 128 ≤ m) (hz : z = (((UInt8.ofNat (m % 128 + 128)).toNat : Nat) : Int))
    (hown : Owns wr base u pre) (hbel : Below base w wr) (hb : base ≤ wr.heap.size)
    (hown1 : w1.ownsRow base 5 1 v1 (pre.length + 1) (bv pre ++ [.int .u8 z]))
    (hg : (wr.alloc o).grownBy w1 u.ownBlock) :
    ∃ (pre' : List UInt8) (f' : Nat), m / 128 < 128 ^ (f' + 1) ∧ Num.uv n = pre' ++ Num.uvF f' (m / 128) ∧ Owns w1 base v1 pre' ∧ Below base w w1 := by
  cases f with
  | zero => simp at hf; omega
  | succ f' =>
    refine ⟨pre ++ [UInt8.ofNat (m % 128 + 128)], f', ?_, ?_, one_more hz hown1, below_grown hbel hb hown hg⟩
    · rw [Nat.pow_succ] at hf; omega
    · rw [hU, Num.uvF_great f' m h128]; simp

set_option maxRecDepth 100000 in
set_option maxHeartbeats 800000 in
theorem refuint_any (w : World) (n : Nat) (hn : n < 18446744073709551616) :
    Calls Try.prog 30 #[.int .u64 n] w fun e w' => ∃ v', e = .returned v' ∧ Owns w' w.heap.size v' (Num.uv n) ∧ Below w.heap.size w w' := by
  obtain ⟨i0, hi, hz0, hz1, hz2⟩ := info_parts Try.info5
  go_enter Try.func30, Try.ntmps30
  go_wp2
  go_loopw [0, 3] (fun vn vb wr => ∃ (pre : List UInt8) (f m : Nat), vn = .int .u64 m ∧ m < 18446744073709551616 ∧ m < 128 ^ (f + 1) ∧ Num.uv n = pre ++ Num.uvF f m ∧ Owns wr w.heap.size vb pre ∧ Below w.heap.size w wr)
    (fun vn _ _ => (intOf vn).toNat)
  case atStart => exact ⟨[], 9, n, rfl, hn, by omega, by simp [Num.uv], World.ownsRow_nil _ _ _ _, Below.refl _ _⟩
  case round =>
    obtain ⟨pre, f, m, rfl, hm, hf, HU, hown, hbel⟩ := hrel
    have hpl : pre.length + (Num.uvF f m).length ≤ 10 := by
      have := Num.uv_length n
      rw [HU] at this
      simpa using this
    have hU : Hid (Num.uv n = pre ++ Num.uvF f m) := HU
    clear HU
    have hsz := hbel.size
    by_cases hlt : 128 ≤ m
    · have hge : ((m : Int) / 128 == 0) = false := by rw [beq_eq_false_iff_ne]; omega
      go_wp2_with (first
        | (at_builtin; refine wpList_append_own _ rfl _ _ 49 rfl w.heap.size 5 i0 (.int .u8 0) 1 1 Try.underlying49 hi hz0 hz1 hz2 rfl (by decide) u3 _ _ rfl (hown.alloc _) ⟨wr.heap.size, 0, none⟩ 1 1 [.int .u8 ((m : Int) % 128 + 128)] rfl rfl (cell_one_new _ _ _) (by simp [Value.oneCell']) (by simp [maxLen]; omega) (by simp; omega) (by simp; omega) ?_; intro v1 w1 hown1 hgrow1 _)
        | go_in)
      obtain ⟨pre', f', g1, g2, g3, g4⟩ := refu_step hU.out hf hlt (ref_low m) hown hbel hsz hown1 hgrow1
      go_roundw
      case rel => exact ⟨pre', f', m / 128, by go_num, by omega, g1, g2, g3, g4⟩
      case measure => simp [intOf]; omega
    · have hge : ((m : Int) / 128 == 0) = true := by rw [beq_iff_eq]; omega
      have hm' : m < 128 := by omega
      clear hlt hf
      go_wp2_with (first
        | (at_builtin; refine wpList_append_own _ rfl _ _ 49 rfl w.heap.size 5 i0 (.int .u8 0) 1 1 Try.underlying49 hi hz0 hz1 hz2 rfl (by decide) u3 _ _ rfl (hown.alloc _) ⟨wr.heap.size, 0, none⟩ 1 1 [.int .u8 ((m : Int) % 128)] rfl rfl (cell_one_new _ _ _) (by simp [Value.oneCell']) (by simp [maxLen]; omega) (by simp; omega) (by simp; omega) ?_; intro v1 w1 hown1 hgrow1 _)
        | go_in)
      go_ret
      refine ⟨_, rfl, ?_, below_grown hbel hsz hown hgrow1⟩
      rw [hU.out, Num.uvF_small f m hm']
      exact one_more (ref_last m hm') hown1

theorem refuint_lit (w : World) (n : Nat) (z : Int) (hz : z = (n : Int)) (hn : n < 18446744073709551616) :
    Calls Try.prog 30 #[.int .u64 z] w fun e w' => ∃ v', e = .returned v' ∧ Owns w' w.heap.size v' (Num.uv n) ∧ Below w.heap.size w w' := by
  subst hz
  exact refuint_any w n hn

set_option maxHeartbeats 400000 in
theorem refint_any (w : World) (k : Int) (h1 : -9223372036854775808 ≤ k) (h2 : k ≤ 9223372036854775807) :
    Calls Try.prog 29 #[.int .i64 k] w fun e w' => ∃ v', e = .returned v' ∧ Owns w' w.heap.size v' (Num.uv (Lib.zigzag k)) ∧ Below w.heap.size w w' := by
  have hz := Lib.zigzag_lt h1 h2
  by_cases hk : 0 ≤ k
  · go_enter Try.func29, Try.ntmps29
    go_wp2_with fail
    refine (refuint_lit w (Lib.zigzag k) _ (by rw [Lib.zigzag_nonneg hk]; omega) hz).mono ?_
    rintro e w1 ⟨v1, rfl, hown1, hbel1⟩
    go_wp2_with fail
    go_ret
    exact ⟨_, rfl, hown1, hbel1⟩
  · have hk' : k < 0 := by omega
    go_enter Try.func29, Try.ntmps29
    go_wp2_with fail
    refine (refuint_lit w (Lib.zigzag k) _ (by unfold Lib.zigzag; rw [if_neg (by omega)]; omega) hz).mono ?_
    rintro e w1 ⟨v1, rfl, hown1, hbel1⟩
    go_wp2_with fail
    go_ret
    exact ⟨_, rfl, hown1, hbel1⟩

set_option maxHeartbeats 400000 in
theorem reftext_any (w : World) (s : ByteArray) (hs : s.size ≤ 140737488351232) :
    Calls Try.prog 91 #[.string s] w fun e w' => ∃ v', e = .returned v' ∧ Owns w' w.heap.size v' (Num.uv s.size ++ s.data.toList) ∧ Below w.heap.size w w' := by
  obtain ⟨i0, hi, hz0, hz1, hz2⟩ := info_parts Try.info5
  go_enter Try.func91, Try.ntmps91
  go_wp2_with fail
  refine (refuint_any w s.size (by omega)).mono ?_
  rintro e w1 ⟨v1, rfl, hown1, hbel1⟩
  have hul := Num.uv_length s.size
  have hsz := hbel1.size
  have hsl : s.data.toList.length = s.size := by simp
  generalize hLe : Num.uv s.size = L at *
  have HLe := hide hLe
  clear hLe
  go_wp2_with (first
    | (at_builtin; refine Lib.wpList_append_own_string _ rfl _ _ 49 9 rfl w.heap.size 5 i0 Try.underlying49 Try.underlying9 hi hz0 hz1 hz2 v1 L.length (bv L) rfl hown1 s rfl (by unfold maxLen; omega) (by omega) hsz ?_; intro v2 w2 hown2 hgrow2 _))
  go_ret
  rw [strCells_bv] at hown2
  rw [unhide HLe]
  have h4 : w2.ownsRow w.heap.size 5 1 v2 (L.length + s.data.toList.length) (bv L ++ bv s.data.toList) := by rw [hsl]; exact hown2
  exact ⟨_, rfl, app_owns h4, grown_below hbel1 hsz hown1 hgrow2⟩
end Go.Proofs.Ytpdlioidiobbbaa
