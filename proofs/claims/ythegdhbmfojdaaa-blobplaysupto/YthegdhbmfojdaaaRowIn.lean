/- Slices of texts, of bytes, of numbers that came in, as the row's reading opens them. -/
import Derived.Test.YthegdhbmfojdaaaMem
import Derived.OpenShut
import Derived.SliceStrings
namespace Go.Proofs.Ythegdhbmfojdaaa
open Go.RowKit

theorem str_back (s : ByteArray) : (⟨s.data.toList.toArray⟩ : ByteArray) = s := by simp
theorem strs_in {W : World} {x : Addr} {len cap : Nat} {ss : List ByteArray} (hl : len ≤ cap) (hm : cap ≤ maxLen) (hz : ss.length = cap) (hc : ∀ i, i < ss.length → W.cell? (x.add i) = some (.string (ss.getD i ByteArray.empty))) :
    Rds W (.slice (some x) len cap) (sv ((ss.take len).map (·.data.toList))) := by
  have e : sv ((ss.take len).map (·.data.toList)) = (ss.take len).map Value.string := by
    unfold sv
    rw [List.map_map]
    apply List.map_congr_left
    intro s _
    simp only [Function.comp]
  rw [e]
  refine ⟨some x, cap, by simp; omega, by simp; omega, hm, (fun h => by cases h), ?_⟩
  rintro ad ⟨rfl⟩ j u hj
  simp only [List.getElem?_map, List.getElem?_take] at hj
  split at hj
  · next hjl =>
    have hz' : j < ss.length := by omega
    rw [List.getElem?_eq_getElem hz'] at hj
    simp only [Option.map_some, Option.some.injEq] at hj
    subst hj
    rw [hc j hz']
    simp [hz']
  · simp at hj
theorem bytes_in {W : World} {x : Addr} {len cap : Nat} {zs : List Int} (hl : len ≤ cap) (hm : cap ≤ maxLen) (hz : zs.length = cap) (hc : ∀ i, i < zs.length → W.cell? (x.add i) = some (.int .u8 (zs.getD i 0))) (hw : ∀ n ∈ zs, (Lit.int .u8 n).wf = true) :
    ∃ l : List UInt8, l.length = len ∧ Reads W (.slice (some x) len cap) l := by
  refine ⟨(zs.take len).map fun n => UInt8.ofNat n.toNat, by simp; omega, some x, cap, ?_, ?_, hm, (fun h => by cases h), ?_⟩
  · simp; omega
  · simp; omega
  · rintro ad ⟨rfl⟩ j u hj
    simp only [bv, List.map_map, List.getElem?_map, List.getElem?_take] at hj
    split at hj
    · next hjl =>
      have hz : j < zs.length := by omega
      rw [List.getElem?_eq_getElem hz] at hj
      simp only [Option.map_some, Option.some.injEq, Function.comp] at hj
      subst hj
      rw [hc j hz]
      have hw := bounds_u8 (hw zs[j] (List.getElem_mem hz))
      simp [hz]
      omega
    · simp at hj
def Ints (l : List Int) : Prop := ∀ x ∈ l, -9223372036854775808 ≤ x ∧ x ≤ 9223372036854775807
theorem Ints.at {l : List Int} (h : Ints l) (i : Nat) (hi : i < l.length) : -9223372036854775808 ≤ l.getD i 0 ∧ l.getD i 0 ≤ 9223372036854775807 := by
  have e : l.getD i 0 = l[i] := by simp [hi]
  rw [e]; exact h _ (List.getElem_mem hi)
theorem ints_in {W : World} {x : Addr} {len cap : Nat} {zs : List Int} (hl : len ≤ cap) (hm : cap ≤ maxLen) (hz : zs.length = cap) (hc : ∀ i, i < zs.length → W.cell? (x.add i) = some (.int .i64 (zs.getD i 0))) (hw : ∀ n ∈ zs, (Lit.int .i64 n).wf = true) :
    Ints (zs.take len) ∧ Rds W (.slice (some x) len cap) (iv (zs.take len)) := by
  refine ⟨fun y hy => bounds_i64 (hw y (List.mem_of_mem_take hy)), some x, cap, ?_, ?_, hm, (fun h => by cases h), ?_⟩
  · simp [iv]; omega
  · simp [iv]; omega
  · rintro ad ⟨rfl⟩ j u hj
    simp only [iv, List.getElem?_map, List.getElem?_take] at hj
    split at hj
    · next hjl =>
      have hz : j < zs.length := by omega
      rw [List.getElem?_eq_getElem hz] at hj
      simp only [Option.map_some, Option.some.injEq] at hj
      subst hj
      rw [hc j hz]
      simp [hz]
    · simp at hj
end Go.Proofs.Ythegdhbmfojdaaa
