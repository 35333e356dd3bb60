/- Slices of bytes that came in, as the row's reading opens them. -/
import Derived.Test.YtpdlioidiobbbaaRefNums
import Derived.OpenShut
import Derived.SliceStrings
namespace Go.Proofs.Ytpdlioidiobbbaa
open Go.RowKit

theorem bytes_in {W : World} {x : Addr} {len cap : Nat} {zs : List Int} (hl : len ≤ cap) (hm : cap ≤ maxLen) (hz : zs.length = cap) (hc : ∀ i, i < zs.length → W.cell? (x.add i) = some (.int .u8 (zs.getD i 0))) (hw : ∀ n ∈ zs, (Lit.int .u8 n).wf = true) :
    ∃ l : List UInt8, l.length = len ∧ Reads W (.slice (some x) len cap) l := by
  refine ⟨(zs.take len).map fun n => UInt8.ofNat n.toNat, by simp; omega, some x, cap, ?_, ?_, hm, (fun h => by cases h), ?_⟩
  · simp; omega
  · simp; omega
  · rintro ad ⟨rfl⟩ j u hj
    simp only [bv, List.map_map, List.getElem?_map, List.getElem?_take] at hj
    split at hj
    · next hjl =>
      have hz : j < zs.length := by omega
      rw [List.getElem?_eq_getElem hz] at hj
      simp only [Option.map_some, Option.some.injEq, Function.comp] at hj
      subst hj
      rw [hc j hz]
      have hw := bounds_u8 (hw zs[j] (List.getElem_mem hz))
      simp [hz]
      omega
    · simp at hj
end Go.Proofs.Ytpdlioidiobbbaa
