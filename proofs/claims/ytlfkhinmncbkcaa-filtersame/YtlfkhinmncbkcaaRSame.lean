/- What the reference's Same promises. -/
import Derived.Test.YtlfkhinmncbkcaaSameM
import Derived.Test.YtlfkhinmncbkcaaRPart
namespace Go.Proofs.Ytlfkhinmncbkcaa
open Go.RowKit Go.Sort

def RSameC (N : Nat) : Prop := ∀ a : Tr, SizeOf.sizeOf a < N → ∀ (b : Tr) (w : World), a.Ok w → b.Ok w →
  Calls Try.prog 18 #[.agg #[.int .i64 a.k, .int .i64 a.d, a.tv, .int .i64 a.lo, .int .i64 a.hi, a.kv], .agg #[.int .i64 b.k, .int .i64 b.d, b.tv, .int .i64 b.lo, .int .i64 b.hi, b.kv]] w fun e w' => e = .returned (.bool (a.same b)) ∧ Grows w w'
end Go.Proofs.Ytlfkhinmncbkcaa
