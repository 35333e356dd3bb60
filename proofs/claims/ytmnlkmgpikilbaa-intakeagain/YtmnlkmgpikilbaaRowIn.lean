/- Rows of numbers and of truths that came in, as the row's reading opens them. -/
import Derived.Test.YtmnlkmgpikilbaaOnc
import Derived.OpenShut
import Derived.SliceStrings
import Derived.SizedLaws
import Derived.Deep.Grids
namespace Go.Proofs.Ytmnlkmgpikilbaa
open Go.RowKit Go.ChangeShapes Go.WideShapes Go.Deep
set_option linter.unusedVariables false

section
variable {H : Type} {enc : TypeId × Value → H} {W : World} {fuel : Nat} {cs : List Value} {x : DataW H × List MemPlace}
theorem spot_none {W : World} {a : Addr} {v : Value} (h : W.cell? (a.add 0) = some v) : a = ⟨a.block, a.off, none⟩ := by
  obtain ⟨b, o, sp⟩ := a
  have hs : sp = none := by
    have := World.cell?_spot h
    simpa [Addr.add] using this
  subst hs; rfl
/-- Numbers. -/
theorem nums_in {t e : TypeId} (ht : Try.prog.underlying t = some (.slice e)) (he : Try.prog.underlying e = some (.int .i64)) (hc : Try.prog.cellsOf e = 1) (h : DataW.trod enc Try.prog W 0 (fun _ => true) true fuel t cs = some x) :
    ∃ a n c l, cs = [.slice a n c] ∧ RdC W a n (i64s l) ∧ (∀ t ∈ l, -9223372036854775808 ≤ t ∧ t ≤ 9223372036854775807) ∧ n ≤ c := by
  rcases open_ints ht he hc h with ⟨rfl, _⟩ | ⟨a, n, c, zs, rfl, _, hl, hm, hz, _, hcell, hw⟩
  · exact ⟨_, _, _, [], rfl, ⟨rfl, Nat.zero_le _, fun i u hi => by simp [i64s] at hi⟩, (fun _ h => by cases h), Nat.le_refl _⟩
  · have hzc : zs.length = c := by simpa using hz
    refine ⟨_, _, _, zs.take n, rfl, ⟨by simp [i64s]; omega, by omega, fun i u hi => ?_⟩, fun t ht => bounds_i64 (hw t (List.mem_of_mem_take ht)), hl⟩
    unfold i64s at hi
    rw [List.getElem?_map, Option.map_eq_some_iff] at hi
    obtain ⟨y, hy, rfl⟩ := hi
    have hin : i < n := by
      have := (List.getElem?_eq_some_iff.1 hy).1
      simp at this; omega
    rw [List.getElem?_take_of_lt hin] at hy
    have hC := hcell i (by omega)
    rw [List.getD_eq_getElem?_getD, hy] at hC
    have ha := spot_none (hcell 0 (by omega))
    rw [ha] at hC ⊢
    refine ⟨_, _, rfl, ?_⟩
    rw [Addr.add_lit] at hC
    simpa using hC
/-- Truths. -/
theorem truths_in {t e : TypeId} (ht : Try.prog.underlying t = some (.slice e)) (he : Try.prog.underlying e = some .bool) (hc : Try.prog.cellsOf e = 1) (h : DataW.trod enc Try.prog W 0 (fun _ => true) true fuel t cs = some x) :
    ∃ a n c l, cs = [.slice a n c] ∧ RdC W a n (bls l) ∧ n ≤ c := by
  rcases open_bools ht he hc h with ⟨rfl, _⟩ | ⟨a, n, c, B, rfl, _, hl, hm, _, hcell⟩
  · exact ⟨_, _, _, [], rfl, ⟨rfl, Nat.zero_le _, fun i u hi => by simp [bls] at hi⟩, Nat.le_refl _⟩
  · refine ⟨_, _, _, (List.range n).map B, rfl, ⟨by simp [bls], by omega, fun i u hi => ?_⟩, hl⟩
    unfold bls at hi
    simp only [List.map_map, List.getElem?_map, Option.map_eq_some_iff] at hi
    obtain ⟨y, hy, rfl⟩ := hi
    obtain ⟨hin, hyi⟩ := List.getElem?_eq_some_iff.1 hy
    rw [List.length_range] at hin
    rw [List.getElem_range] at hyi
    subst hyi
    have hC := hcell i (by omega)
    have ha := spot_none (hcell 0 (by omega))
    rw [ha] at hC ⊢
    refine ⟨_, _, rfl, ?_⟩
    rw [Addr.add_lit] at hC
    simpa using hC
end
end Go.Proofs.Ytmnlkmgpikilbaa
