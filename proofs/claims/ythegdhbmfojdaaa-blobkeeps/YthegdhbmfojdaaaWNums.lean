/- Contracts of folded, Uint, Int. -/
import Derived.Test.YthegdhbmfojdaaaWOwn
import Derived.Lib.Zigzag
namespace Go.Proofs.Ythegdhbmfojdaaa.Wi
open Go.RowKit
end Go.Proofs.Ythegdhbmfojdaaa.Wi
