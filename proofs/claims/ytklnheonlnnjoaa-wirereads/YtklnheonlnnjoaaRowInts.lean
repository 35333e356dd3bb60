/- A slice of ints that came in, as the row's reading opens it. -/
import Derived.Test.YtklnheonlnnjoaaRowIn
namespace Go.Proofs.Ytklnheonlnnjoaa
open Go.RowKit
theorem IsRow.ints {w : World} {a : Option Addr} {len cap : Nat} {zs : List Int} (h : IsRow .i64 w a len cap zs) :
    (∀ i, i < len → ∃ b off, a = some ⟨b, off, none⟩ ∧ w.cell? ⟨b, off + i, none⟩ = some (.int .i64 (zs.getD i 0)) ∧ b < w.heap.size) ∧ (∀ i, i < len → -9223372036854775808 ≤ zs.getD i 0 ∧ zs.getD i 0 ≤ 9223372036854775807) ∧ len ≤ 2 ^ 63 - 1 := by
  rcases h with ⟨rfl, rfl, rfl, rfl⟩ | ⟨x, rfl, h1, h2, h3, h4, h5⟩
  · exact ⟨fun i hi => by omega, fun i hi => by omega, by omega⟩
  · unfold maxLen at h2
    refine ⟨fun i hi => ?_, fun i hi => ?_, by omega⟩
    · obtain ⟨b, off, sp⟩ := x
      have hs : sp = none := by
        have := World.cell?_spot (h4 0 (by omega))
        simpa [Addr.add] using this
      subst hs
      have hc := h4 i (by omega)
      rw [Addr.add_lit] at hc
      exact ⟨b, off, rfl, hc, World.block_lt_of_cell? _ _ hc⟩
    · have hiz : i < zs.length := by omega
      have := bounds_i64 (h5 zs[i] (List.getElem_mem hiz))
      simpa [hiz] using this
end Go.Proofs.Ytklnheonlnnjoaa
