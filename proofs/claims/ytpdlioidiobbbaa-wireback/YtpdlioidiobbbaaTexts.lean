/- Contracts of Uint, Int and Text of the program and of the reference, for bytes and texts of any size that can be. -/
import Derived.Test.YtpdlioidiobbbaaRoom
import Derived.Test.YtpdlioidiobbbaaApp
import Derived.Lib.AppendStr
namespace Go.Proofs.Ytpdlioidiobbbaa
open Go.RowKit

theorem Has.owns {w : World} {base g cap : Nat} {l : List UInt8} (h : Has w base g cap l) : Owns w base (.slice (.some ⟨g, 0, none⟩) l.length cap) l := h

set_option maxHeartbeats 400000 in
theorem uint_cap (w : World) (v : Value) (l : List UInt8) (n : Nat) (h : Reads w v l) (hl : l.length ≤ 140737488351232) (hn : n < 18446744073709551616) :
    Calls Try.prog 17 #[v, .int .u64 n] w fun e w' => ∃ v', e = .returned v' ∧ Owns w' w.heap.size v' (l ++ Num.uv n) ∧ Below w.heap.size w w' := by
  go_enter Try.func17, Try.ntmps17
  go_wp2_with fail
  refine (room_cap w v l 10 10 rfl h (by omega)).mono ?_
  rintro e w1 ⟨rfl, hown1, hbel1⟩
  go_wp2_with fail
  refine (add_cap w1 w.heap.size w.heap.size (l.length + 10) l n l.length rfl hown1 hbel1.size (Nat.le_refl _) (Nat.le_refl _) hn).mono ?_
  rintro e w2 ⟨rfl, hown2, hbel2⟩
  generalize hLe : l ++ Num.uv n = L at *
  have HLe := hide hLe
  clear hLe
  go_wp2_with fail
  go_ret
  rw [unhide HLe]
  exact ⟨_, rfl, hown2.owns, hbel1.trans hbel2⟩

set_option maxHeartbeats 400000 in
theorem int_cap (w : World) (v : Value) (l : List UInt8) (k : Int) (h : Reads w v l) (hl : l.length ≤ 140737488351232) (h1 : -9223372036854775808 ≤ k) (h2 : k ≤ 9223372036854775807) :
    Calls Try.prog 18 #[v, .int .i64 k] w fun e w' => ∃ v', e = .returned v' ∧ Owns w' w.heap.size v' (l ++ Num.uv (Lib.zigzag k)) ∧ Below w.heap.size w w' := by
  go_enter Try.func18, Try.ntmps18
  go_wp2_with fail
  refine (room_cap w v l 10 10 rfl h (by omega)).mono ?_
  rintro e w1 ⟨rfl, hown1, hbel1⟩
  go_wp2_with fail
  refine (folded_any _ k h1 h2).mono ?_
  rintro e w2 ⟨rfl, rfl⟩
  go_wp2_with fail
  refine (add_cap w2 w.heap.size w.heap.size (l.length + 10) l _ l.length rfl hown1 hbel1.size (Nat.le_refl _) (Nat.le_refl _) (Lib.zigzag_lt h1 h2)).mono ?_
  rintro e w3 ⟨rfl, hown2, hbel2⟩
  generalize hLe : l ++ Num.uv (Lib.zigzag k) = L at *
  have HLe := hide hLe
  clear hLe
  go_wp2_with fail
  go_ret
  rw [unhide HLe]
  exact ⟨_, rfl, hown2.owns, hbel1.trans hbel2⟩

theorem strCells_bv (s : ByteArray) : Lib.strCells s = bv s.data.toList := rfl

end Go.Proofs.Ytpdlioidiobbbaa
