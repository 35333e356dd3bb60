/- Contracts of folded, Uint, Int. -/
import Derived.Test.YtpdlioidiobbbaaOwn
import Derived.Lib.Zigzag
namespace Go.Proofs.Ytpdlioidiobbbaa
open Go.RowKit
set_option maxHeartbeats 400000 in
theorem folded_any (w : World) (k : Int) (h1 : -9223372036854775808 ≤ k) (h2 : k ≤ 9223372036854775807) :
    Calls Try.prog 73 #[.int .i64 k] w fun e w' => e = .returned (.int .u64 (Lib.zigzag k : Nat)) ∧ w' = w := by
  by_cases hk : k < 0
  · go_enter Try.func73, Try.ntmps73
    go_wp2
    go_ret
    exact ⟨ret_int (Lib.zigzag_neg h1 hk), rfl⟩
  · have hk0 : 0 ≤ k := by omega
    go_enter Try.func73, Try.ntmps73
    go_wp2
    go_ret
    exact ⟨ret_int (Lib.zigzag_nonneg hk0).symm, rfl⟩
set_option maxHeartbeats 400000 in
theorem uint_any (w : World) (v : Value) (l : List UInt8) (n : Nat) (h : Reads w v l) (hl : l.length ≤ 1099511627776) (hn : n < 18446744073709551616) :
    Calls Try.prog 17 #[v, .int .u64 n] w fun e w' => ∃ v', e = .returned v' ∧ Owns w' w.heap.size v' (l ++ Num.uv n) ∧ Below w.heap.size w w' := by
  go_enter Try.func17, Try.ntmps17
  go_wp2_with fail
  refine (room_any w v l 10 h hl (by omega)).mono ?_
  rintro e w1 ⟨v1, rfl, hown1, hbel1⟩
  go_wp2_with fail
  refine (add_any w1 w.heap.size v1 l n hown1 hbel1.size hl hn).mono ?_
  rintro e w2 ⟨v2, rfl, hown2, hbel2⟩
  go_wp2_with fail
  go_ret
  exact ⟨v2, rfl, hown2, hbel1.trans hbel2⟩
set_option maxHeartbeats 400000 in
theorem int_any (w : World) (v : Value) (l : List UInt8) (k : Int) (h : Reads w v l) (hl : l.length ≤ 1099511627776) (h1 : -9223372036854775808 ≤ k) (h2 : k ≤ 9223372036854775807) :
    Calls Try.prog 18 #[v, .int .i64 k] w fun e w' => ∃ v', e = .returned v' ∧ Owns w' w.heap.size v' (l ++ Num.uv (Lib.zigzag k)) ∧ Below w.heap.size w w' := by
  go_enter Try.func18, Try.ntmps18
  go_wp2_with fail
  refine (room_any w v l 10 h hl (by omega)).mono ?_
  rintro e w1 ⟨v1, rfl, hown1, hbel1⟩
  go_wp2_with fail
  refine (folded_any _ k h1 h2).mono ?_
  rintro e w2 ⟨rfl, rfl⟩
  go_wp2_with fail
  refine (add_any w2 w.heap.size v1 l _ hown1 hbel1.size hl (Lib.zigzag_lt h1 h2)).mono ?_
  rintro e w3 ⟨v2, rfl, hown2, hbel2⟩
  go_wp2_with fail
  go_ret
  exact ⟨v2, rfl, hown2, hbel1.trans hbel2⟩
theorem uint_lit (w : World) (v : Value) (l : List UInt8) (n : Nat) (z : Int) (h : Reads w v l) (hl : l.length ≤ 1099511627776) (hn : n < 18446744073709551616) (hz : z = (n : Int)) :
    Calls Try.prog 17 #[v, .int .u64 z] w fun e w' => ∃ v', e = .returned v' ∧ Owns w' w.heap.size v' (l ++ Num.uv n) ∧ Below w.heap.size w w' := by
  subst hz
  exact uint_any w v l n h hl hn
end Go.Proofs.Ytpdlioidiobbbaa
