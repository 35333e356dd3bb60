/- The library's BinarySearch, Insert, Delete at rows of int: their layings. -/
import Derived.Test.YtgbmigfamefenaaNw0
import Derived.Shelf.Slices.SearchI
import Derived.Shelf.Slices.Delete
import Derived.Shelf.Slices.Empties
import Derived.Shelf.Spec.SlicesInsert
import Derived.Shelf.Spec.SlicesInsertGrow
import Derived.Shelf.Lay
import Derived.Ground.Names2Prog
namespace Go.Proofs.Ytgbmigfamefenaa
open Go.Shelf Go.RowKit Go.Maps Go.Sort
set_option linter.unusedVariables false
shelf_lay Lays2.n25 Nm2 25 at Try as bsL
shelf_lay Lays2.n21 Nm2 21 at Try as insL
shelf_lay Lays2.n23 Nm2 23 at Try as delL
theorem bs_some (w : World) (b o n cap : Nat) (l : List Int) (x : Int) (hn : n = l.length) (hbig : l.length ≤ 100000) (hc : ∀ j, j < l.length → w.cell? ⟨b, o + j, none⟩ = some (.int .i64 (l.getD j 0))) (hs : l.Pairwise (· ≤ ·)) :
    Calls Try.prog 31 #[.slice (some ⟨b, o, none⟩) n cap, .int .i64 x] w fun e w' => e = .returned (.tuple #[.int .i64 (l.countP (· < x) : Nat), .bool (l.contains x)]) ∧ Grows w w' := by
  subst hn
  have k := Any.slices_BinarySearch_int bsL b o l.length cap l x w (Nat.le_refl _) (by omega) hc (by rw [List.take_length]; exact hs)
  rw [List.take_length] at k
  change Calls Try.prog 31 _ _ _ at k
  refine k.mono ?_
  rintro e w' ⟨rfl, q, rfl⟩
  exact ⟨rfl, q, #[], by rw [grow_empty]⟩
end Go.Proofs.Ytgbmigfamefenaa
