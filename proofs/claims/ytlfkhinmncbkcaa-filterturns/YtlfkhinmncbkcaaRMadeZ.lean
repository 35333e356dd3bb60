/- The contract of the reference's Made. -/
import Derived.Test.YtlfkhinmncbkcaaRMX
import Derived.Test.YtlfkhinmncbkcaaRMA3t
import Derived.Test.YtlfkhinmncbkcaaRMA3f
import Derived.Test.YtlfkhinmncbkcaaRMA4t
import Derived.Test.YtlfkhinmncbkcaaRMA4f
namespace Go.Proofs.Ytlfkhinmncbkcaa
open Go.RowKit Go.Sort

theorem refmade_all (D M : Int) (B0 : Nat) : ∀ N, RMadeC D M B0 N := by
  intro N
  induction N with
  | zero => intro t ht; omega
  | succ N ih =>
    intro t ht b w hB h off hf hz
    by_cases h2 : t.k = 2
    · cases hks : t.ks with
      | nil =>
        have hl := (fitA_kids2 h2 hf)
        rw [hks] at hl
        cases hl
      | cons c r => exact rmade_not D M B0 N ih t ht b w hB h off hf hz c r h2 hks
    · by_cases h3 : t.k = 3
      · cases b with
        | true => exact rmade_and3true D M B0 N ih t ht w hB h off hf hz h3
        | false => exact rmade_and3false D M B0 N ih t ht w hB h off hf hz h3
      · by_cases h4 : t.k = 4
        · cases b with
          | true => exact rmade_and4true D M B0 N ih t ht w hB h off hf hz h4
          | false => exact rmade_and4false D M B0 N ih t ht w hB h off hf hz h4
        · cases b with
          | true => exact rmade_leaft D M B0 N ih t ht w hB h off hf hz h2 h3 h4
          | false => exact rmade_leaff D M B0 N ih t ht w hB h off hf hz h2 h3 h4
theorem refmade_any (D M : Int) (t : Tr) (b : Bool) (w : World) (h : t.Ok w) (hf : t.fitA D M = true) (hz : t.sz ≤ 1000) :
    Calls Try.prog 20 #[.agg #[.int .i64 t.k, .int .i64 t.d, t.tv, .int .i64 t.lo, .int .i64 t.hi, t.kv], .bool b] w fun e w' =>
      ∃ t' : Tr, e = .returned (.agg #[.int .i64 t'.k, .int .i64 t'.d, t'.tv, .int .i64 t'.lo, .int .i64 t'.hi, t'.kv]) ∧ t'.Ok w' ∧ t'.er = t.turn b ∧ Below w.heap.size w w' :=
  (refmade_all D M w.heap.size _ t (Nat.lt_succ_self _) b w (Nat.le_refl _) h h.off hf hz).mono fun _ _ ⟨t', h1, h2, _, h4, h5⟩ => ⟨t', h1, h2, h4, h5⟩
end Go.Proofs.Ytlfkhinmncbkcaa
