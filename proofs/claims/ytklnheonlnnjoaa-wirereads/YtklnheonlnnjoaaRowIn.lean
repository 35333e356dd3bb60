/- A slice of bytes that came in, as the row's reading opens it, reads as a list of bytes. -/
import Derived.Test.YtklnheonlnnjoaaBytes
import Derived.OpenShut
namespace Go.Proofs.Ytklnheonlnnjoaa
open Go.RowKit

/-- What is told of a slice of integers that came in: it is nil, or it leads to a row of 'cap' cells, each number fitting its kind. -/
def IsRow (k : IntKind) (w : World) (a : Option Addr) (len cap : Nat) (zs : List Int) : Prop :=
  (a = none ∧ len = 0 ∧ cap = 0 ∧ zs = []) ∨
  ∃ x, a = some x ∧ len ≤ cap ∧ cap ≤ maxLen ∧ zs.length = cap ∧ (∀ i, i < zs.length → w.cell? (x.add i) = some (.int k (zs.getD i 0))) ∧ ∀ n ∈ zs, (Lit.int k n).wf = true

theorem IsRow.reads {w : World} {a : Option Addr} {len cap : Nat} {zs : List Int} (h : IsRow .u8 w a len cap zs) : ∃ l : List UInt8, l.length = len ∧ Reads w (.slice a len cap) l := by
  rcases h with ⟨rfl, rfl, rfl, rfl⟩ | ⟨x, rfl, h1, h2, h3, h4, h5⟩
  · exact ⟨[], rfl, Reads.nil w⟩
  · refine ⟨(zs.take len).map fun n => UInt8.ofNat n.toNat, by simp; omega, some x, cap, ?_, ?_, h2, (fun h => by cases h), ?_⟩
    · simp; omega
    · simp; omega
    · rintro ad ⟨rfl⟩ j u hj
      simp only [bv, List.map_map, List.getElem?_map, List.getElem?_take] at hj
      split at hj
      · next hjl =>
        have hz : j < zs.length := by omega
        rw [List.getElem?_eq_getElem hz] at hj
        simp only [Option.map_some, Option.some.injEq, Function.comp] at hj
        subst hj
        rw [h4 j hz]
        have hw := bounds_u8 (h5 zs[j] (List.getElem_mem hz))
        simp [hz]
        omega
      · simp at hj
end Go.Proofs.Ytklnheonlnnjoaa
