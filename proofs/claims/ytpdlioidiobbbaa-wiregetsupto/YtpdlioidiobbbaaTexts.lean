/- Contracts of Uint, Int and Text of the program and of the reference, for bytes and texts of any size that can be. -/
import Derived.Test.YtpdlioidiobbbaaRoom
import Derived.Test.YtpdlioidiobbbaaApp
import Derived.Lib.AppendStr
namespace Go.Proofs.Ytpdlioidiobbbaa
open Go.RowKit

theorem strCells_bv (s : ByteArray) : Lib.strCells s = bv s.data.toList := rfl

end Go.Proofs.Ytpdlioidiobbbaa
