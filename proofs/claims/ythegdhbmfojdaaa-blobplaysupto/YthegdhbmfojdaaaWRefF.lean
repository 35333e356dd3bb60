/- Contracts of the reference's four, Frame and Unframe. -/
import Derived.Test.YthegdhbmfojdaaaWUnframe
import Derived.Test.YthegdhbmfojdaaaWSum
import Derived.Test.YthegdhbmfojdaaaWApp
import Derived.Test.YthegdhbmfojdaaaFn12
import Derived.Laws.AppendOwnNone
import Derived.Outline
namespace Go.Proofs.Ythegdhbmfojdaaa.Wi
open Go.RowKit

theorem le4_cells (n : Nat) (hn : n < 4294967296) : #[Value.int .u8 ((n : Int) % 256), .int .u8 ((n : Int) / 256 % 256), .int .u8 ((n : Int) / 65536 % 256), .int .u8 ((n : Int) / 16777216)] = (bv (Four.le4 n)).toArray := by
  simp [bv, Four.le4, Four.at_nat]
  omega

set_option maxHeartbeats 400000 in
theorem reffour_any (w : World) (n : Nat) (hn : n < 4294967296) :
    Calls Try.prog 88 #[.int .u32 n] w fun e w' => ∃ v', e = .returned v' ∧ Owns w' w.heap.size v' (Four.le4 n) ∧ Below w.heap.size w w' := by
  have h0 : (0 : Int) ≤ (n : Int) := by omega
  have h1 : (n : Int) < 4294967296 := by omega
  go_enter Try.func88, Try.ntmps88
  go_wp2
  go_ret
  rw [le4_cells n hn]
  exact ⟨_, rfl, World.ownsRow_lit (base := w.heap.size) (e := 5) (size := 1) w (bv (Four.le4 n)).toArray 4 (Nat.le_refl _) (by unfold maxLen; omega) (by simp [bv_length, Four.le4_length]), (Below.refl _ _).alloc (Nat.le_refl _) _⟩

set_option maxHeartbeats 400000 in
theorem refframe_long (w : World) (v : Value) (l : List UInt8) (h : Reads w v l) (hl : 1048576 < l.length) :
    Calls Try.prog 64 #[v] w fun e w' => e = .returned (.tuple #[.slice none 0 0, .int .i64 1]) ∧ w' = w := by
  obtain ⟨ao, cap, rfl, h1, h2, h3, h4⟩ := h
  have hl' : (1048576 : Int) < (l.length : Int) := by omega
  go_enter Try.func64, Try.ntmps64
  go_wp2
  go_ret2
  exact ⟨rfl, rfl⟩

set_option maxHeartbeats 800000 in
theorem refframe_any (w : World) (v : Value) (l : List UInt8) (h : Reads w v l) (hl : l.length ≤ 1048576) :
    Calls Try.prog 64 #[v] w fun e w' => ∃ v', e = .returned (.tuple #[v', .int .i64 0]) ∧ Owns w' w.heap.size v' (framed l) ∧ Below w.heap.size w w' := by
  have hr := h
  obtain ⟨ao, cap, rfl, h1, h2, h3, h4⟩ := h
  have hl' : ¬ (1048576 : Int) < (l.length : Int) := by omega
  go_enter Try.func64, Try.ntmps64
  go_wp2_with fail
  refine (reffour_any w l.length (by omega)).mono ?_
  rintro e w1 ⟨v1, rfl, hown1, hbel1⟩
  obtain ⟨_, _, hsrc⟩ := hr.src hbel1
  clear h4 hr
  have hsz1 := hbel1.size
  go_wp2_with (first
    | (at_builtin; refine wp_app rfl (.tmp 13) (.tmp 14) rfl w.heap.size v1 _ l rfl hown1 ao l.length cap rfl rfl h3 hsrc (by rw [Four.le4_length]; omega) hsz1 ?_; intro v2 w2 hown2 hg2))
  have hbel2 := grown_below hbel1 hsz1 hown1 hg2
  have hsz2 := hbel2.size
  clear hg2 hsrc hown1 hbel1 hsz1
  refine (refsum_any _ _ (Four.le4 l.length ++ l) hown2.reads).mono ?_
  rintro e w3 ⟨rfl, hw3⟩
  subst hw3
  go_wp2_with fail
  refine (reffour_any _ _ (Crc.sum_lt _)).mono ?_
  rintro e w4 ⟨v4, rfl, hown4, hbel4⟩
  obtain ⟨a2, c2, hv2⟩ := hown2.shape (4 + l.length) (by simp [Four.le4_length])
  rw [hv2]
  rw [hv2] at hown2
  clear hv2 v2
  obtain ⟨hn2, h2n, h2s⟩ := hown2.reads.src hbel4
  have hown4' := hown4.mono hsz2
  have hsz4 := hbel4.size
  clear hown4 hown2
  go_wp2_with (first
    | (at_builtin; refine wp_app rfl (.tmp 19) (.tmp 20) rfl w.heap.size v4 _ (Four.le4 l.length ++ l) rfl hown4' a2 (4 + l.length) c2 rfl hn2 h2n h2s (by simp [Four.le4_length]; omega) (by omega) ?_; intro v5 w5 hown5 hg5))
  go_ret2
  exact ⟨_, rfl, hown5, grown_below (hbel2.trans (hbel4.mono hsz2)) (by omega) hown4' hg5⟩
end Go.Proofs.Ythegdhbmfojdaaa.Wi
