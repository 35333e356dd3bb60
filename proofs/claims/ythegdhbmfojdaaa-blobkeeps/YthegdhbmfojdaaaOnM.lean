/- One blob, and what is put under its name later. No walk stands here. -/
import Derived.Test.YthegdhbmfojdaaaAw
namespace Go.Proofs.Ythegdhbmfojdaaa
open Go.RowKit Go.Maps Go.Sort

/-- A disk with the blob a. -/
def onS (l : Str) : St := ⟨[⟨[98, 46, 97], Wi.framed l, (Wi.framed l).length⟩], 3, false, false, 0, 0⟩
theorem unf_framed (l : Str) (h : l.length ≤ 1048576) : Wi.unf (Wi.framed l) = 0 := by
  have hl := framed_len l
  have e1 : ((Wi.framed l).drop 4).take 4 = Wi.Four.le4 l.length := rfl
  have e2 : (Wi.framed l).drop 4 = Wi.Four.le4 l.length ++ l := rfl
  have e3 : (Wi.framed l).take 4 = Wi.Four.le4 (Wi.Crc.sum (Wi.Four.le4 l.length ++ l)) := rfl
  unfold Wi.unf
  rw [e1, e2, e3, hl, Wi.Four.num_le4 _ (by omega), Wi.Four.num_le4 _ (Wi.Crc.sum_lt _), if_neg (by omega), if_neg (by omega), if_neg (by simp)]
theorem drop_framed (l : Str) : (Wi.framed l).drop 8 = l := rfl
theorem wr_new (fl : Str) : wrB st0 [97] fl = (0, ⟨[⟨[98, 46, 97], fl, fl.length⟩], 3, false, false, 0, 0⟩) := by kernel_rfl
theorem on1 (l : Str) (h : l.length ≤ 1048576) : bput st0 [97] l = (0, onS l) := by
  have e0 : rfB st0 [97] = 0 := by kernel_rfl
  have e1 : hol st0 [97] l = some false := by
    have : (bget st0 [97]).1 = 120 := by kernel_rfl
    unfold hol
    rw [if_pos this]
  unfold bput
  rw [e0, if_neg (by simp), if_neg (by omega), e1]
  exact wr_new _
theorem on2 (l : Str) (h : l.length ≤ 1048576) : bget (onS l) [97] = (0, l) := by
  have e0 : rfB (onS l) [97] = 0 := by kernel_rfl
  have e1 : rfF (onS l) (fB [97]) [] = 0 := by kernel_rfl
  have e2 : rdC (onS l) (fB [97]) = Wi.framed l := by kernel_rfl
  unfold bget
  rw [e0, if_neg (by simp), e1, if_neg (by simp), e2, if_pos (unf_framed l h), drop_framed]
/-- The code of a later Put. -/
def onC (l m : Str) : Nat := if 1048576 < m.length then 1 else if m = l then 0 else 121
theorem on3 (l m : Str) (h : l.length ≤ 1048576) : bput (onS l) [97] m = (onC l m, onS l) := by
  have e0 : rfB (onS l) [97] = 0 := by kernel_rfl
  unfold bput onC
  rw [e0, if_neg (by simp)]
  by_cases h1 : 1048576 < m.length
  · rw [if_pos h1, if_pos h1]
  · rw [if_neg h1, if_neg h1]
    unfold hol
    rw [on2 l h]
    by_cases h2 : m = l
    · subst h2
      simp
    · have : ¬ l = m := fun e => h2 e.symm
      simp [this, h2]
end Go.Proofs.Ythegdhbmfojdaaa
