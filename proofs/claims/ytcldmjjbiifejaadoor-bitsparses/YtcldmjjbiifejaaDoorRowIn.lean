/- Slices that came in, as the row's reading opens them, read as lists of numbers. -/
import Derived.Test.YtcldmjjbiifejaaDoorJust
import Derived.OpenShut
namespace Go.Proofs.YtcldmjjbiifejaaDoor
open Go.RowKit

/-- What is told of a slice of integers that came in: it is nil, or it leads to a row of 'cap' cells, each number fitting its kind. -/
def IsRow (k : IntKind) (w : World) (a : Option Addr) (len cap : Nat) (zs : List Int) : Prop :=
  (a = none ∧ len = 0 ∧ cap = 0 ∧ zs = []) ∨
  ∃ x, a = some x ∧ len ≤ cap ∧ cap ≤ maxLen ∧ zs.length = cap ∧ (∀ i, i < zs.length → w.cell? (x.add i) = some (.int k (zs.getD i 0))) ∧ ∀ n ∈ zs, (Lit.int k n).wf = true

theorem IsRow.ints {w : World} {a : Option Addr} {len cap : Nat} {zs : List Int} (h : IsRow .i64 w a len cap zs) : ∃ l : List Int, Ints l ∧ Rds w (.slice a len cap) (iv l) := by
  rcases h with ⟨rfl, rfl, rfl, rfl⟩ | ⟨x, rfl, h1, h2, h3, h4, h5⟩
  · exact ⟨[], fun x hx => by simp at hx, Rds.nil w⟩
  · refine ⟨zs.take len, fun y hy => bounds_i64 (h5 y (List.mem_of_mem_take hy)), some x, cap, ?_, ?_, h2, (fun h => by cases h), ?_⟩
    · simp [iv]; omega
    · simp [iv]; omega
    · rintro ad ⟨rfl⟩ j u hj
      simp only [iv, List.getElem?_map, List.getElem?_take] at hj
      split at hj
      · next hjl =>
        have hz : j < zs.length := by omega
        rw [List.getElem?_eq_getElem hz] at hj
        simp only [Option.map_some, Option.some.injEq] at hj
        subst hj
        rw [h4 j hz]
        simp [hz]
      · simp at hj
theorem IsRow.bytes {w : World} {a : Option Addr} {len cap : Nat} {zs : List Int} (h : IsRow .u8 w a len cap zs) : ∃ l : List Nat, Bytes l ∧ Rds w (.slice a len cap) (nv .u8 l) := by
  rcases h with ⟨rfl, rfl, rfl, rfl⟩ | ⟨x, rfl, h1, h2, h3, h4, h5⟩
  · exact ⟨[], fun x hx => by simp at hx, Rds.nil w⟩
  · refine ⟨(zs.take len).map Int.toNat, ?_, some x, cap, ?_, ?_, h2, (fun h => by cases h), ?_⟩
    · intro y hy
      obtain ⟨n, hn, rfl⟩ := List.mem_map.1 hy
      have := bounds_u8 (h5 n (List.mem_of_mem_take hn))
      omega
    · simp [nv]; omega
    · simp [nv]; omega
    · rintro ad ⟨rfl⟩ j u hj
      simp only [nv, List.map_map, List.getElem?_map, List.getElem?_take] at hj
      split at hj
      · next hjl =>
        have hz : j < zs.length := by omega
        rw [List.getElem?_eq_getElem hz] at hj
        simp only [Option.map_some, Option.some.injEq, Function.comp] at hj
        subst hj
        rw [h4 j hz]
        have hw := bounds_u8 (h5 zs[j] (List.getElem_mem hz))
        simp [hz]
        omega
      · simp at hj
end Go.Proofs.YtcldmjjbiifejaaDoor
