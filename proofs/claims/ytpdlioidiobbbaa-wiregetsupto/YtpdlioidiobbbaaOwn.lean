/- Contracts of the functions that lay bytes behind bytes: roomBehind, addUint, folded, Uint, Int. -/
import Derived.Test.YtpdlioidiobbbaaBytes
import Derived.OwnWalk
import Derived.Outline
namespace Go.Proofs.Ytpdlioidiobbbaa
open Go.RowKit

set_option maxHeartbeats 400000 in
theorem room_any (w : World) (v : Value) (l : List UInt8) (r : Nat) (h : Reads w v l) (hl : l.length ≤ 1099511627776) (hr : r ≤ 1099511627776) :
    Calls Try.prog 72 #[v, .int .i64 r] w fun e w' => ∃ v', e = .returned v' ∧ Owns w' w.heap.size v' l ∧ Below w.heap.size w w' := by
  obtain ⟨ao, cap, rfl, h1, h2, h3, h4⟩ := h
  obtain ⟨i0, hi, hz0, hz1, hz2⟩ := info_parts Try.info5
  go_enter Try.func72, Try.ntmps72
  go_wp2_with (first
    | (at_make; refine wpList_make_own _ rfl _ _ 49 rfl w.heap.size 5 i0 (.int .u8 0) 1 Try.underlying49 hi hz0 hz1 .i64 .i64 _ (l.length + r) rfl rfl (by omega) (by rw [hz2]; omega) (by unfold maxLen; omega) (Nat.le_refl _) ?_; intro w0 hown0 hgrow0)
    | (at_builtin; refine wpList_append_fits_any _ rfl _ _ 49 rfl w.heap.size 5 i0 1 Try.underlying49 hi hz1 w.heap.size 0 _ _ rfl hown0 ao l.length cap (bv l) rfl (by simp [bv_length]) h3 (fun ad ha j u hj => hgrow0.cell (h4 ad ha j u hj) (by simp)) (bv_one l) (by omega) ?_; intro w1 hown1 hgrow1))
  go_ret
  simp only [Nat.zero_add, List.nil_append] at hown1
  exact ⟨_, rfl, hown1, ((Below.refl _ _).grown hgrow0 (Nat.le_refl _) (by simp)).grown hgrow1 hgrow0.size (by simp)⟩

theorem or_128 (m : Nat) (_h : m < 18446744073709551616) : bits .or .u8 ((m : Int) % 256) 128 = (((UInt8.ofNat (m % 128 + 128)).toNat : Nat) : Int) := by
  have h1 : (UInt8.ofNat (m % 128 + 128)).toNat = m % 128 + 128 := by simp [UInt8.toNat_ofNat']; omega
  have e : (m : Int) % 256 = ((m % 256 : Nat) : Int) := by omega
  have h2 : bits .or .u8 ((m % 256 : Nat) : Int) ((128 : Nat) : Int) = ((m % 256 ||| 128 : Nat) : Int) := u8_or_nat _ _ (by omega) (by omega)
  have h3 : m % 256 ||| 128 = m % 128 + 128 := by
    have a1 : m % 256 ||| 128 = 128 * ((m % 256 / 128) ||| 1) + m % 128 := by
      have q := @Nat.or_mod_two_pow (m % 256) 128 7
      have r := @Nat.or_div_two_pow (m % 256) 128 7
      have z : m % 256 % 128 ||| 0 = m % 256 % 128 := Nat.or_zero _
      have z2 : (m % 256 ||| 128) % 128 = m % 256 % 128 := q.trans z
      have z3 : (m % 256 ||| 128) / 128 = m % 256 / 128 ||| 1 := r
      omega
    have a2 : m % 256 / 128 = 0 ∨ m % 256 / 128 = 1 := by omega
    rcases a2 with a2 | a2 <;> rw [a2] at a1 <;> simp at a1 <;> omega
  rw [h1, e]
  refine h2.trans ?_
  rw [h3]

theorem one_more {w1 : World} {base : Nat} {v1 : Value} {l : List UInt8} {c : UInt8} {z : Int} (hz : z = ((c.toNat : Nat) : Int)) (h : w1.ownsRow base 5 1 v1 (l.length + 1) (bv l ++ [.int .u8 z])) : Owns w1 base v1 (l ++ [c]) := by
  subst hz
  have e : bv (l ++ [c]) = bv l ++ [.int .u8 (c.toNat : Int)] := by simp [bv]
  unfold Owns
  rw [e]; simpa using h
theorem below_grown {base : Nat} {w wr w1 : World} {o : Obj} {u : Value} {l : List UInt8} (hbel : Below base w wr) (hb : base ≤ wr.heap.size) (hown : Owns wr base u l) (hg : (wr.alloc o).grownBy w1 u.ownBlock) : Below base w w1 :=
  (hbel.alloc hb o).grown hg (by simp; omega) (fun k hk => (World.ownsRow.lt hown k hk).1)
theorem add_step {w wr w1 : World} {base : Nat} {u v1 : Value} {l pre : List UInt8} {f m n : Nat} {o : Obj} (hU : Num.uv n = pre ++ Num.uvF f m) (hm : m < 18446744073709551616) (hf : m < 128 ^ (f + 1)) (h128 : 128 ≤ m)
    (hown : Owns wr base u (l ++ pre)) (hbel : Below base w wr) (hb : base ≤ wr.heap.size)
    (hown1 : w1.ownsRow base 5 1 v1 ((l ++ pre).length + 1) (bv (l ++ pre) ++ [.int .u8 (bits .or .u8 ((m : Int) % 256) 128)]))
    (hg : (wr.alloc o).grownBy w1 u.ownBlock) :
    ∃ (pre' : List UInt8) (f' : Nat), m / 128 < 128 ^ (f' + 1) ∧ Num.uv n = pre' ++ Num.uvF f' (m / 128) ∧ Owns w1 base v1 (l ++ pre') ∧ Below base w w1 := by
  cases f with
  | zero => simp at hf; omega
  | succ f' =>
    refine ⟨pre ++ [UInt8.ofNat (m % 128 + 128)], f', ?_, ?_, ?_, below_grown hbel hb hown hg⟩
    · rw [Nat.pow_succ] at hf; omega
    · rw [hU, Num.uvF_great f' m h128]; simp
    · rw [← List.append_assoc]; exact one_more (or_128 m hm) hown1

set_option maxRecDepth 100000 in
set_option maxHeartbeats 800000 in
theorem add_any (w : World) (base : Nat) (v : Value) (l : List UInt8) (n : Nat) (h : Owns w base v l) (hb : base ≤ w.heap.size) (hl : l.length ≤ 1099511627776) (hn : n < 18446744073709551616) :
    Calls Try.prog 71 #[v, .int .u64 n] w fun e w' => ∃ v', e = .returned v' ∧ Owns w' base v' (l ++ Num.uv n) ∧ Below base w w' := by
  obtain ⟨i0, hi, hz0, hz1, hz2⟩ := info_parts Try.info5
  go_enter Try.func71, Try.ntmps71
  go_wp2
  go_loopw [0, 1] (fun vb vn wr => ∃ (pre : List UInt8) (f m : Nat), vn = .int .u64 m ∧ m < 18446744073709551616 ∧ m < 128 ^ (f + 1) ∧ Num.uv n = pre ++ Num.uvF f m ∧ Owns wr base vb (l ++ pre) ∧ Below base w wr)
    (fun _ vn _ => (intOf vn).toNat)
  case atStart => exact ⟨[], 9, n, rfl, hn, by omega, by simp [Num.uv], by simpa using h, Below.refl _ _⟩
  case round =>
    obtain ⟨pre, f, m, rfl, hm, hf, HU, hown, hbel⟩ := hrel
    have hpl : pre.length + (Num.uvF f m).length ≤ 10 := by
      have := Num.uv_length n
      rw [HU] at this
      simpa using this
    have hU : Hid (Num.uv n = pre ++ Num.uvF f m) := HU
    clear HU
    have hsz := hbel.size
    by_cases hlt : 128 ≤ m
    · have hge : (128 : Int) ≤ (m : Int) := by omega
      go_wp2_with (first
        | (at_builtin; refine wpList_append_own _ rfl _ _ 49 rfl base 5 i0 (.int .u8 0) 1 1 Try.underlying49 hi hz0 hz1 hz2 rfl (by decide) u0 _ _ rfl (hown.alloc _) ⟨wr.heap.size, 0, none⟩ 1 1 [.int .u8 (bits .or .u8 ((m : Int) % 256) 128)] rfl rfl (cell_one_new _ _ _) (by simp [Value.oneCell']) (by simp [maxLen]; omega) (by simp; omega) (by simp; omega) ?_; intro v1 w1 hown1 hgrow1 _)
        | go_in)
      obtain ⟨pre', f', g1, g2, g3, g4⟩ := add_step hU.out hm hf hlt hown hbel (by omega) hown1 hgrow1
      go_roundw
      case rel => exact ⟨pre', f', m / 128, by go_num, by omega, g1, g2, g3, g4⟩
      case measure => simp [intOf]; omega
    · have hge : (m : Int) < 128 := by omega
      clear hlt hf
      go_wp2_with (first
        | (at_builtin; refine wpList_append_own _ rfl _ _ 49 rfl base 5 i0 (.int .u8 0) 1 1 Try.underlying49 hi hz0 hz1 hz2 rfl (by decide) u0 _ _ rfl (hown.alloc _) ⟨wr.heap.size, 0, none⟩ 1 1 [.int .u8 (m : Int)] rfl rfl (cell_one_new _ _ _) (by simp [Value.oneCell']) (by simp [maxLen]; omega) (by simp; omega) (by simp; omega) ?_; intro v1 w1 hown1 hgrow1 _)
        | go_in)
      go_ret
      refine ⟨_, rfl, ?_, below_grown hbel (by omega) hown hgrow1⟩
      rw [hU.out, Num.uvF_small f m (by omega), ← List.append_assoc]
      exact one_more (by simp [UInt8.toNat_ofNat']; omega) hown1
end Go.Proofs.Ytpdlioidiobbbaa
