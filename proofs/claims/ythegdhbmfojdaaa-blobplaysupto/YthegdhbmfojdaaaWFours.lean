/- Contracts of setFour and four. -/
import Derived.Test.YthegdhbmfojdaaaWNums
import Derived.Test.YthegdhbmfojdaaaWApp
import Derived.Test.YthegdhbmfojdaaaWSum
import Derived.Laws.OwnMore
import Derived.Outline
namespace Go.Proofs.Ythegdhbmfojdaaa.Wi
open Go.RowKit

/-- A row with the first k bytes of a number laid from 'off' on. -/
def put4 (xs : List Value) (off n : Nat) : Nat → List Value
  | 0 => xs
  | k + 1 => (put4 xs off n k).set (off + k) (.int .u8 ((Four.at_ n k).toNat : Int))
theorem put4_length (xs : List Value) (off n : Nat) : ∀ k, (put4 xs off n k).length = xs.length
  | 0 => rfl
  | k + 1 => by simp [put4, put4_length xs off n k]

theorem grown_trans {a b c : World} {r : Option Nat} (h : a.grownBy b r) (k : b.grownBy c r) : a.grownBy c r :=
  ⟨k.os.trans h.os, k.tape.trans h.tape, k.output.trans h.output, Nat.le_trans h.size k.size, fun i hi hr => (k.block i (Nat.lt_of_lt_of_le hi h.size) hr).trans (h.block i hi hr)⟩

set_option maxHeartbeats 800000 in
theorem setFour_any (w : World) (base g off N cap c4 : Nat) (xs : List Value) (n : Nat) (_hn : n < 4294967296)
    (h : w.ownsRow base 5 1 (.slice (some ⟨g, 0, none⟩) N cap) N xs) (ho : off + 4 ≤ N) :
    Calls Try.prog 75 #[.slice (some ⟨g, off, none⟩) 4 c4, .int .u32 n] w fun e w' => e = .returned (.tuple #[]) ∧
      w'.ownsRow base 5 1 (.slice (some ⟨g, 0, none⟩) N cap) N (put4 xs off n 4) ∧ w.grownBy w' (some g) := by
  go_enter Try.func75, Try.ntmps75
  go_wp2
  go_loopw [7] (fun i wr => ∃ k : Nat, k ≤ 4 ∧ i = .int .i64 k ∧ wr.ownsRow base 5 1 (.slice (some ⟨g, 0, none⟩) N cap) N (put4 xs off n k) ∧ w.grownBy wr (some g)) (fun i _ => 4 - (intOf i).toNat)
  case atStart => exact ⟨0, by omega, rfl, h, World.grownBy.refl _ _⟩
  case round =>
    obtain ⟨k, hk, rfl, hown, hgr⟩ := hrel
    have hlen : xs.length = N := by have := h.1; simpa using this
    by_cases hlt : k < 4
    · have hcell : ∃ u, wr.cell? ⟨g, off + k, none⟩ = some u := by
        refine ⟨(put4 xs off n k)[off + k]'(by rw [put4_length]; omega), ?_⟩
        rw [World.ownsRow.cellAt hown (off + k) (by omega)]
        simp [put4_length, hlen, show off + k < N by omega]
      obtain ⟨u, hcell⟩ := hcell
      have hfr := World.ownsRow.frozenAt hown (off + k)
      obtain ⟨s1, s2⟩ := World.ownsRow.stored hown (off + k) (.int .u8 ((n : Int) / 2 ^ (8 * k) % 256))
      have e1 : (n : Int) / 2 ^ (8 * k) % 256 = (((Four.at_ n k).toNat : Nat) : Int) := by
        rw [Four.at_nat]; simp
      have H1 : Hid (_ = _) := e1
      clear e1
      go_wp2
      go_roundw
      case rel => exact ⟨k + 1, by omega, by go_num, by unfold put4; rw [← H1.out]; exact s1, grown_trans hgr s2⟩
      case measure => simp [intOf]; omega
    · have e4 : k = 4 := by omega
      clear hlt
      subst e4
      go_wp2
      go_end0
      exact ⟨rfl, hown, hgr⟩

theorem setFour_lit (w : World) (base g off N cap c4 : Nat) (xs : List Value) (n : Nat) (z : Int) (hn : n < 4294967296) (hz : z = (n : Int))
    (h : w.ownsRow base 5 1 (.slice (some ⟨g, 0, none⟩) N cap) N xs) (ho : off + 4 ≤ N) :
    Calls Try.prog 75 #[.slice (some ⟨g, off, none⟩) 4 c4, .int .u32 z] w fun e w' => e = .returned (.tuple #[]) ∧
      w'.ownsRow base 5 1 (.slice (some ⟨g, 0, none⟩) N cap) N (put4 xs off n 4) ∧ w.grownBy w' (some g) := by
  subst hz
  exact setFour_any w base g off N cap c4 xs n hn h ho

set_option maxHeartbeats 800000 in
theorem four_any (w : World) (l : List UInt8) (b off cap : Nat) (h4 : l.length = 4)
    (hc : ∀ i, i < l.length → w.cell? ⟨b, off + i, none⟩ = some (.int .u8 ((l.getD i 0).toNat : Int))) :
    Calls Try.prog 80 #[.slice (some ⟨b, off, none⟩) 4 cap] w fun e w' => e = .returned (.int .u32 (Four.num l : Nat)) ∧ w' = w := by
  go_enter Try.func80, Try.ntmps80
  go_wp2
  go_loop [3, 8] (fun t i => ∃ k : Nat, k ≤ 4 ∧ i = .int .i64 k ∧ t = .int .u32 (Four.num (l.take k) : Nat)) (fun _ i => 4 - (intOf i).toNat)
  case atStart => exact ⟨0, by omega, rfl, rfl⟩
  case round =>
    obtain ⟨k, hk, rfl, rfl⟩ := hrel
    by_cases hlt : k < 4
    · have hk4 : k < l.length := by omega
      have hcell := hc k hk4
      go_wp2
      go_round
      case rel => exact ⟨k + 1, by omega, by go_num, congrArg _ (Four.num_take l k hk4 hlt)⟩
      case measure => simp [intOf]; omega
    · have e4 : k = 4 := by omega
      clear hlt
      subst e4
      go_wp2
      go_ret
      exact ⟨ret_int (by rw [List.take_of_length_le (by omega)]), rfl⟩
end Go.Proofs.Ythegdhbmfojdaaa.Wi
