/- The walk of WirePuts. -/
import Derived.Test.YtpdlioidiobbbaaRfp
import Derived.Test.YtpdlioidiobbbaaAwake
namespace Go.Proofs.Ytpdlioidiobbbaa
open Go.RowKit

theorem el_some {α : Type} (f : α → Option Bs) (g : α → Bs) (l : List α) (h : ∀ x ∈ l, f x = some (g x)) : el f l = some (Num.uv l.length ++ l.flatMap g) := by
  unfold el
  rw [encAll_some f g l h]
  rfl
end Go.Proofs.Ytpdlioidiobbbaa
