/- The contract of the reference's Same. -/
import Derived.Test.YtlfkhinmncbkcaaRSX
import Derived.Test.YtlfkhinmncbkcaaRST
namespace Go.Proofs.Ytlfkhinmncbkcaa
open Go.RowKit Go.Sort

theorem refsame_all : ∀ N, RSameC N := by
  intro N
  induction N with
  | zero => intro a ha; omega
  | succ N ih =>
    intro a ht b w ha hb
    by_cases hk : a.k = b.k
    · by_cases h5 : a.k = 5
      · exact rsame_5 N ih a b ht w ha hb hk h5
      · by_cases h6 : a.k = 6
        · exact rsame_6 N ih a b ht w ha hb hk h6
        · by_cases h7 : a.k = 7
          · exact rsame_7 N ih a b ht w ha hb hk h7
          · by_cases h8 : a.k = 8
            · exact rsame_8 N ih a b ht w ha hb hk h8
            · exact rsame_o N ih a b ht w ha hb hk (fun h => h.elim h5 fun h => h.elim h6 h7) h8
    · exact rsame_0 N ih a b ht w ha hb hk
theorem refsame_any (a b : Tr) (w : World) (ha : a.Ok w) (hb : b.Ok w) :
    Calls Try.prog 18 #[.agg #[.int .i64 a.k, .int .i64 a.d, a.tv, .int .i64 a.lo, .int .i64 a.hi, a.kv], .agg #[.int .i64 b.k, .int .i64 b.d, b.tv, .int .i64 b.lo, .int .i64 b.hi, b.kv]] w fun e w' => e = .returned (.bool (a.same b)) ∧ Grows w w' :=
  refsame_all _ a (Nat.lt_succ_self _) b w ha hb
end Go.Proofs.Ytlfkhinmncbkcaa
