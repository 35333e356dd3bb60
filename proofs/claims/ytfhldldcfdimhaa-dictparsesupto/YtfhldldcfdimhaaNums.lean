/- Contracts of folded, Uint, Int. -/
import Derived.Test.YtfhldldcfdimhaaOwn
namespace Go.Proofs.Ytfhldldcfdimhaa
open Go.RowKit
set_option maxHeartbeats 400000 in
theorem uint_any (w : World) (v : Value) (l : List UInt8) (n : Nat) (h : Reads w v l) (hl : l.length ≤ 1099511627776) (hn : n < 18446744073709551616) :
    Calls Try.prog 41 #[v, .int .u64 n] w fun e w' => ∃ v', e = .returned v' ∧ Owns w' w.heap.size v' (l ++ Num.uv n) ∧ Below w.heap.size w w' := by
  go_enter Try.func41, Try.ntmps41
  go_wp2_with fail
  refine (room_any w v l 10 h hl (by omega)).mono ?_
  rintro e w1 ⟨v1, rfl, hown1, hbel1⟩
  go_wp2_with fail
  refine (add_any w1 w.heap.size v1 l n hown1 hbel1.size hl hn).mono ?_
  rintro e w2 ⟨v2, rfl, hown2, hbel2⟩
  go_wp2_with fail
  go_ret
  exact ⟨v2, rfl, hown2, hbel1.trans hbel2⟩
theorem uint_lit (w : World) (v : Value) (l : List UInt8) (n : Nat) (z : Int) (h : Reads w v l) (hl : l.length ≤ 1099511627776) (hn : n < 18446744073709551616) (hz : z = (n : Int)) :
    Calls Try.prog 41 #[v, .int .u64 z] w fun e w' => ∃ v', e = .returned v' ∧ Owns w' w.heap.size v' (l ++ Num.uv n) ∧ Below w.heap.size w w' := by
  subst hz
  exact uint_any w v l n h hl hn
end Go.Proofs.Ytfhldldcfdimhaa
