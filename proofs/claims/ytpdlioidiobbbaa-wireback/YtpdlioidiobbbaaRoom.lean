/- Contracts of roomBehind, addUint, Uint, Int and Text within the room that was made: nothing grows there. -/
import Derived.Test.YtpdlioidiobbbaaNums
import Derived.Room.AppendFits
namespace Go.Proofs.Ytpdlioidiobbbaa
open Go.RowKit

/-- An owned row of bytes at the head of a block, with so much room. -/
def Has (w : World) (base g cap : Nat) (l : List UInt8) : Prop := w.ownsRow base 5 1 (.slice (some ⟨g, 0, none⟩) l.length cap) l.length (bv l)

set_option maxHeartbeats 400000 in
theorem room_cap (w : World) (v : Value) (l : List UInt8) (r : Nat) (z : Int) (hz : z = (r : Int)) (h : Reads w v l) (hl : l.length + r ≤ 281474976710656) :
    Calls Try.prog 72 #[v, .int .i64 z] w fun e w' => e = .returned (.slice (some ⟨w.heap.size, 0, none⟩) l.length (l.length + r)) ∧ Has w' w.heap.size w.heap.size (l.length + r) l ∧ Below w.heap.size w w' := by
  subst hz
  obtain ⟨ao, cap, rfl, h1, h2, h3, h4⟩ := h
  obtain ⟨i0, hi, hz0, hz1, hz2⟩ := info_parts Try.info5
  go_enter Try.func72, Try.ntmps72
  go_wp2_with (first
    | (at_make; refine wpList_make_own _ rfl _ _ 49 rfl w.heap.size 5 i0 (.int .u8 0) 1 Try.underlying49 hi hz0 hz1 .i64 .i64 _ (l.length + r) rfl rfl (by omega) (by rw [hz2]; omega) (by unfold maxLen; omega) (Nat.le_refl _) ?_; intro w0 hown0 hgrow0)
    | (at_builtin; refine wpList_append_fits_any _ rfl _ _ 49 rfl w.heap.size 5 i0 1 Try.underlying49 hi hz1 w.heap.size 0 _ _ rfl hown0 ao l.length cap (bv l) rfl (by simp [bv_length]) h3 (fun ad ha j u hj => hgrow0.cell (h4 ad ha j u hj) (by simp)) (bv_one l) (by omega) ?_; intro w1 hown1 hgrow1))
  go_ret
  simp only [Nat.zero_add, List.nil_append] at hown1
  exact ⟨rfl, hown1, ((Below.refl _ _).grown hgrow0 (Nat.le_refl _) (by simp)).grown hgrow1 hgrow0.size (by simp)⟩

theorem has_more {w1 : World} {base g cap : Nat} {l : List UInt8} {c : UInt8} {z : Int} (hz : z = ((c.toNat : Nat) : Int)) (h : w1.ownsRow base 5 1 (.slice (some ⟨g, 0, none⟩) (l.length + 1) cap) (l.length + 1) (bv l ++ [.int .u8 z])) : Has w1 base g cap (l ++ [c]) := by
  subst hz
  have e : bv (l ++ [c]) = bv l ++ [.int .u8 (c.toNat : Int)] := by simp [bv]
  unfold Has
  rw [e, List.length_append]
  exact h

theorem room_step {w wr w1 : World} {base g cap : Nat} {l pre : List UInt8} {f m n : Nat} {o : Obj} (hU : Num.uv n = pre ++ Num.uvF f m) (hm : m < 18446744073709551616) (hf : m < 128 ^ (f + 1)) (h128 : 128 ≤ m)
    (hbel : Below base w wr) (hb : base ≤ wr.heap.size) (hg : base ≤ g)
    (hown1 : w1.ownsRow base 5 1 (.slice (some ⟨g, 0, none⟩) ((l ++ pre).length + 1) cap) ((l ++ pre).length + 1) (bv (l ++ pre) ++ [.int .u8 (bits .or .u8 ((m : Int) % 256) 128)]))
    (hgr : (wr.alloc o).grownBy w1 (some g)) :
    ∃ (pre' : List UInt8) (f' : Nat), m / 128 < 128 ^ (f' + 1) ∧ Num.uv n = pre' ++ Num.uvF f' (m / 128) ∧ Has w1 base g cap (l ++ pre') ∧ Below base w w1 ∧ pre'.length = pre.length + 1 := by
  cases f with
  | zero => simp at hf; omega
  | succ f' =>
    refine ⟨pre ++ [UInt8.ofNat (m % 128 + 128)], f', ?_, ?_, ?_, (hbel.alloc hb o).grown hgr (by simp; omega) (fun k hk => by cases hk; exact hg), by simp⟩
    · rw [Nat.pow_succ] at hf; omega
    · rw [hU, Num.uvF_great f' m h128]; simp
    · rw [← List.append_assoc]; exact has_more (or_128 m hm) hown1

set_option maxRecDepth 100000 in
set_option maxHeartbeats 800000 in
theorem add_cap (w : World) (base g cap : Nat) (l : List UInt8) (n : Nat) (k : Nat) (hk : k = l.length) (h : Has w base g cap l) (hb : base ≤ w.heap.size) (hg : base ≤ g) (hr : l.length + 10 ≤ cap) (hn : n < 18446744073709551616) :
    Calls Try.prog 71 #[.slice (some ⟨g, 0, none⟩) k cap, .int .u64 n] w fun e w' => e = .returned (.slice (some ⟨g, 0, none⟩) (l ++ Num.uv n).length cap) ∧ Has w' base g cap (l ++ Num.uv n) ∧ Below base w w' := by
  subst hk
  obtain ⟨i0, hi, hz0, hz1, hz2⟩ := info_parts Try.info5
  go_enter Try.func71, Try.ntmps71
  go_wp2
  go_loopw [0, 1] (fun vb vn wr => ∃ (pre : List UInt8) (f m : Nat), vb = .slice (some ⟨g, 0, none⟩) (l ++ pre).length cap ∧ vn = .int .u64 m ∧ m < 18446744073709551616 ∧ m < 128 ^ (f + 1) ∧ Num.uv n = pre ++ Num.uvF f m ∧ Has wr base g cap (l ++ pre) ∧ Below base w wr)
    (fun _ vn _ => (intOf vn).toNat)
  case atStart => exact ⟨[], 9, n, by simp, rfl, hn, by omega, by simp [Num.uv], by simpa using h, Below.refl _ _⟩
  case round =>
    obtain ⟨pre, f, m, rfl, rfl, hm, hf, HU, hown, hbel⟩ := hrel
    have hpl : pre.length + (Num.uvF f m).length ≤ 10 := by
      have := Num.uv_length n
      rw [HU] at this
      simpa using this
    have hpp := Num.uvF_pos f m
    have hU : Hid (Num.uv n = pre ++ Num.uvF f m) := HU
    clear HU
    have hsz := hbel.size
    have hfit : (l ++ pre).length + 1 ≤ cap := by simp; omega
    generalize hP : l ++ pre = P at *
    have HP := hide hP
    clear hP hpl hpp
    by_cases hlt : 128 ≤ m
    · have hge : (128 : Int) ≤ (m : Int) := by omega
      go_wp2_with (first
        | (at_builtin; refine wpList_append_fits _ rfl _ _ 49 rfl base 5 i0 1 Try.underlying49 hi hz1 g P.length cap (bv P) rfl (World.ownsRow.alloc hown _) ⟨wr.heap.size, 0, none⟩ 1 1 [.int .u8 (bits .or .u8 ((m : Int) % 256) 128)] rfl rfl (cell_one_new _ _ _) (by simp [Value.oneCell']) hfit ?_; intro w1 hown1 hgrow1)
        | go_in)
      rw [← unhide HP] at hown1
      obtain ⟨pre', f', g1, g2, g3, g4, g5⟩ := room_step hU.out hm hf hlt hbel (by omega) hg hown1 hgrow1
      go_roundw
      case rel => exact ⟨pre', f', m / 128, by rw [← unhide HP]; simp [g5]; omega, by go_num, by omega, g1, g2, g3, g4⟩
      case measure => simp [intOf]; omega
    · have hge : (m : Int) < 128 := by omega
      have hm' : m < 128 := by omega
      clear hlt hf
      go_wp2_with (first
        | (at_builtin; refine wpList_append_fits _ rfl _ _ 49 rfl base 5 i0 1 Try.underlying49 hi hz1 g P.length cap (bv P) rfl (World.ownsRow.alloc hown _) ⟨wr.heap.size, 0, none⟩ 1 1 [.int .u8 (m : Int)] rfl rfl (cell_one_new _ _ _) (by simp [Value.oneCell']) hfit ?_; intro w1 hown1 hgrow1)
        | go_in)
      go_ret
      have e : l ++ Num.uv n = P ++ [UInt8.ofNat m] := by rw [hU.out, Num.uvF_small f m hm', ← List.append_assoc, unhide HP]
      rw [e]
      refine ⟨by simp, has_more (by simp [UInt8.toNat_ofNat']; omega) hown1, (hbel.alloc (by omega) _).grown hgrow1 (by simp; omega) (fun k hk => by cases hk; exact hg)⟩
end Go.Proofs.Ytpdlioidiobbbaa
