/- The program's Put. -/
import Derived.Test.YtpdlioidiobbbaaMsg
import Derived.Deep.Cut
import Derived.Laws.Rows
namespace Go.Proofs.Ytpdlioidiobbbaa
open Go.RowKit

end Go.Proofs.Ytpdlioidiobbbaa
