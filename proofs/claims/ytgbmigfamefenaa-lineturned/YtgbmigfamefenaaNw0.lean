/- Contract: New. -/
import Derived.Test.YtgbmigfamefenaaCvd
namespace Go.Proofs.Ytgbmigfamefenaa
open Go.Shelf Go.RowKit Go.Maps Go.Sort
set_option linter.unusedVariables false

set_option maxHeartbeats 1600000 in
theorem new_any (w : World) : Calls Try.prog 16 #[] w fun ev w' => ev = .returned (.pointer (some ⟨w.heap.size, 0, none⟩)) ∧ Tl w' w.heap.size (fun i => i = w.heap.size) [] ∧ Below w.heap.size w w' := by
  have H : Hid (Tl (w.alloc (.cells #[.map none] 63)) w.heap.size (fun i => i = w.heap.size) []) := by
    apply hide
    refine ⟨none, [], BxA.new _ _ _, rfl, ?_, (fun m q => by cases q), (fun x q => by cases q), List.Pairwise.nil, rfl, fun i q => by simp at q ⊢; omega⟩
    first | exact .inl ⟨rfl, rfl⟩ | exact ⟨.inl ⟨rfl, rfl⟩⟩ | simp [MapZ]
  have HB : Hid (Below w.heap.size w (w.alloc (.cells #[.map none] 63))) := Grows.below (Grows.alloc _ _)
  go_enter Try.func16, Try.ntmps16
  go_wp2_with fail
  go_ret
  exact ⟨rfl, H.out, HB.out⟩
end Go.Proofs.Ytgbmigfamefenaa
