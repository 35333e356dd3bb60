/- awake's own sums. No walk stands here. -/
import Derived.Test.YthegdhbmfojdaaaBl7
namespace Go.Proofs.Ythegdhbmfojdaaa
open Go.RowKit Go.Maps Go.Sort

theorem open_new : bopen st0 = (0, st0) := by
  have : lstN st0 [116, 46] = [] := by unfold lstN srt preN st0; simp
  unfold bopen
  rw [this]
  rfl
/-- A disk with one blob x. -/
def aS1 : St := ⟨[⟨[98, 46, 120], Wi.framed [97, 98], 10⟩], 3, false, false, 0, 0⟩
theorem a1 : bput st0 [120] [97, 98] = (0, aS1) := by kernel_rfl
theorem a2 : bput aS1 [120] [97, 98] = (0, aS1) := by kernel_rfl
theorem a3 : bput aS1 [120] [99] = (121, aS1) := by kernel_rfl
theorem a4 : bget aS1 [120] = (0, [97, 98]) := by kernel_rfl
theorem a5 : bget aS1 [121] = (120, []) := by kernel_rfl
theorem a6 : lstN aS1 [] = [[98, 46, 120]] := by unfold lstN srt preN aS1; simp [Lib.hasPrefix]
end Go.Proofs.Ythegdhbmfojdaaa
