/- The contract of math/bits.OnesCount64. -/
import Derived.Test.YtcldmjjbiifejaaDoorPop
import Derived.Test.YtcldmjjbiifejaaDoorCells
namespace Go.Proofs.YtcldmjjbiifejaaDoor
open Go.RowKit

set_option maxHeartbeats 400000 in
theorem ones_any (w : World) (x : Nat) (hx : x < 18446744073709551616) :
    Calls Tryd.prog 43 #[.int .u64 x] w fun e w' => e = .returned (.int .i64 ((cnt 64 x : Nat) : Int)) ∧ w' = w := by
  obtain ⟨a, b, c, h1, l1, h2, l2, h3, l3, l4, l5, l6, h4⟩ := ones x hx
  have k1 : bits .and .u64 ((x : Int) / 2) 6148914691236517205 = ((x / 2 &&& 6148914691236517205 : Nat) : Int) := u64_and_nat (x / 2) 6148914691236517205 (by omega) (by decide)
  have k2 : bits .and .u64 (x : Int) 6148914691236517205 = ((x &&& 6148914691236517205 : Nat) : Int) := u64_and_nat x 6148914691236517205 (by omega) (by decide)
  have k3 : bits .and .u64 ((a : Int) / 4) 3689348814741910323 = ((a / 4 &&& 3689348814741910323 : Nat) : Int) := u64_and_nat (a / 4) 3689348814741910323 (by omega) (by decide)
  have k4 : bits .and .u64 (a : Int) 3689348814741910323 = ((a &&& 3689348814741910323 : Nat) : Int) := u64_and_nat a 3689348814741910323 (by omega) (by decide)
  have k5 : bits .and .u64 ((b : Int) / 16 + (b : Int)) 1085102592571150095 = (c : Int) := by
    have := u64_and_nat (b / 16 + b) 1085102592571150095 (by omega) (by decide)
    rw [h3] at this
    rw [← this]
    have e : ((b / 16 + b : Nat) : Int) = (b : Int) / 16 + (b : Int) := by omega
    rw [e]
    exact congrArg (bits .and .u64 ((b : Int) / 16 + (b : Int))) rfl
  obtain ⟨p, hp⟩ : ∃ p, p = x / 2 &&& 6148914691236517205 := ⟨_, rfl⟩
  obtain ⟨q, hq⟩ : ∃ q, q = x &&& 6148914691236517205 := ⟨_, rfl⟩
  rw [← hp] at k1 h1
  rw [← hq] at k2 h1
  have e1 : (p : Int) + (q : Int) = (a : Int) := by omega
  obtain ⟨r, hr⟩ : ∃ r, r = a / 4 &&& 3689348814741910323 := ⟨_, rfl⟩
  obtain ⟨s, hs⟩ : ∃ s, s = a &&& 3689348814741910323 := ⟨_, rfl⟩
  rw [← hr] at k3 h2
  rw [← hs] at k4 h2
  have e2 : (r : Int) + (s : Int) = (b : Int) := by omega
  obtain ⟨d, hd⟩ : ∃ d, d = c + c / 256 := ⟨_, rfl⟩
  rw [← hd] at l4 l5 l6 h4
  have e3 : (c : Int) + (c : Int) / 256 = (d : Int) := by omega
  obtain ⟨f, hf⟩ : ∃ f, f = d + d / 65536 := ⟨_, rfl⟩
  rw [← hf] at l5 l6 h4
  have e4 : (d : Int) + (d : Int) / 65536 = (f : Int) := by omega
  obtain ⟨g, hg⟩ : ∃ g, g = f + f / 4294967296 := ⟨_, rfl⟩
  rw [← hg] at l6 h4
  have e5 : (f : Int) + (f : Int) / 4294967296 = (g : Int) := by omega
  have k6 : bits .and .i64 (g : Int) 127 = ((cnt 64 x : Nat) : Int) := by rw [i64_and127, ← h4]; omega
  obtain ⟨t, ht⟩ : ∃ t, t = cnt 64 x := ⟨_, rfl⟩
  rw [← ht] at k6 ⊢
  clear ht h4 hg hf hd hs hr hp hq h3
  go_enter Tryd.func43, Tryd.ntmps43
  go_wp2
  go_ret
  simp
end Go.Proofs.YtcldmjjbiifejaaDoor
