/- The contract of the reference's Holds. -/
import Derived.Test.YtlfkhinmncbkcaaRH1
import Derived.Test.YtlfkhinmncbkcaaRH2
import Derived.Test.YtlfkhinmncbkcaaRH3
import Derived.Test.YtlfkhinmncbkcaaRH4
import Derived.Test.YtlfkhinmncbkcaaRH5
import Derived.Test.YtlfkhinmncbkcaaRH6
import Derived.Test.YtlfkhinmncbkcaaRH7
import Derived.Test.YtlfkhinmncbkcaaRH8
namespace Go.Proofs.Ytlfkhinmncbkcaa
open Go.RowKit Go.Sort

theorem refholds_all (X : Fc) : ∀ N, RHoldC X N := by
  intro N
  induction N with
  | zero => intro t ht; omega
  | succ N ih =>
    intro t ht w h hX hf
    rcases fit_kind hf with hk | hk | hk | hk | hk | hk | hk | hk
    · exact rhold_1 X N ih t ht w h hX hf hk
    · exact rhold_2 X N ih t ht w h hX hf hk
    · exact rhold_3 X N ih t ht w h hX hf hk
    · exact rhold_4 X N ih t ht w h hX hf hk
    · exact rhold_5 X N ih t ht w h hX hf hk
    · exact rhold_6 X N ih t ht w h hX hf hk
    · exact rhold_7 X N ih t ht w h hX hf hk
    · exact rhold_8 X N ih t ht w h hX hf hk
theorem refholds_any (X : Fc) (t : Tr) (w : World) (h : t.Ok w) (hX : X.Ok w) (hf : t.fitA X.ds.length X.ms.length = true) :
    Calls Try.prog 16 #[.agg #[.int .i64 t.k, .int .i64 t.d, t.tv, .int .i64 t.lo, .int .i64 t.hi, t.kv], .agg #[.int .i64 X.t, X.dv, X.mv]] w fun e w' => e = .returned (.bool (t.hold X)) ∧ Grows w w' :=
  refholds_all X _ t (Nat.lt_succ_self _) w h hX hf
end Go.Proofs.Ytlfkhinmncbkcaa
