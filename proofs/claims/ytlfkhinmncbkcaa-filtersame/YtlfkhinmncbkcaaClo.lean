/- The library's Clone at texts, laid at this dump: one application a contract. -/
import Derived.Shelf.Slices.Clone
import Derived.Test.YtlfkhinmncbkcaaEra
namespace Go.Proofs
open Go.Shelf
def Try.laysNm216_ren : Go.Shelf.Ren := ⟨fun | 16 => 43 | n => n, fun | 24 => 24 | 9 => 9 | 4 => 4 | n => n, fun | n => n⟩
theorem Try.laysNm216 : Go.Proofs.Lays2.n16 Try.prog Try.laysNm216_ren := {
  mixed := by kernel_rfl
  f16 := Try.func43.trans (congrArg some (by kernel_rfl))
  t4 := Try.underlying4
  a4 := Try.isAgg4
  z4 := Try.sizeOf4
  v4 := Try.zeroValue4
  t9 := Try.underlying9
  a9 := Try.isAgg9
  z9 := Try.sizeOf9
  v9 := Try.zeroValue9
  t24 := Try.underlying24
  a24 := Try.isAgg24
  z24 := Try.sizeOf24
  v24 := Try.zeroValue24
  i9 := by kernel_rfl }
end Go.Proofs
namespace Go.Proofs.Ytlfkhinmncbkcaa
open Go.RowKit Go.Shelf Go.Sort Go.Lib

theorem sv_getD (ts : List Str) (j : Nat) (hj : j < ts.length) : ((ts.map fun t => (⟨t.toArray⟩ : ByteArray)).getD j ByteArray.empty) = ⟨(ts.getD j []).toArray⟩ := by simp [hj]
theorem vfrom_own {w : World} {B e : Nat} {v : Value} {xs : List Value} (h : Own w B e v xs) : vfrom B v := by
  intro a n c hv
  rcases h.2 with ⟨rfl, _⟩ | ⟨g, cap, cur, rfl, hb, _⟩
  · cases hv
  · cases hv
    exact hb
theorem clone_any (w : World) (v : Value) (ts : List Str) (h : Rds w v (sv ts)) (hbig : ts.length * 16 ≤ 140737488355328) :
    Calls Try.prog 43 #[v] w fun e w' => ∃ v', e = .returned v' ∧ Own w' w.heap.size 9 v' (sv ts) ∧ Below w.heap.size w w' := by
  obtain ⟨ao, n, cap, rfl⟩ : ∃ ao n cap, v = .slice ao n cap := by obtain ⟨ao, cap, rfl, _⟩ := h; exact ⟨_, _, _, rfl⟩
  have h' := h
  obtain ⟨rfl, h1, h2, h3⟩ := h.cells
  simp only [sv_length] at *
  by_cases h0 : 0 < ts.length
  · obtain ⟨b, off, rfl, hc⟩ := h3 h0
    refine (Any.slices_Clone_string Try.laysNm216 b off ts.length cap (ts.map fun t => ⟨t.toArray⟩) w (by simp) hbig (fun j hj => ?_)).mono ?_
    · have hj' : j < ts.length := by simpa using hj
      rw [sv_getD ts j hj']
      exact hc j _ (sv_get ts j hj')
    · rintro e w' ⟨v', rfl, ho, hn, hb⟩
      refine ⟨v', rfl, ?_, hb⟩
      have e1 : ((ts.map fun t => (⟨t.toArray⟩ : ByteArray)).take ts.length).map Value.string = sv ts := by
        rw [List.take_of_length_le (by simp)]
        simp [sv]
      rw [e1] at ho
      unfold Own
      rw [sv_length]
      exact ho
  · obtain rfl : ts = [] := List.eq_nil_of_length_eq_zero (by omega)
    cases ao with
    | none =>
      refine (Any.slices_Clone_string_nil Try.laysNm216 _ cap w).mono ?_
      rintro e w' ⟨rfl, rfl⟩
      exact ⟨_, rfl, ⟨rfl, .inl ⟨rfl, rfl⟩⟩, Below.refl _ _⟩
    | some a =>
      refine (Any.slices_Clone_string_zero Try.laysNm216 a cap w).mono ?_
      rintro e w' ⟨v', rfl, ho, hn, hb⟩
      exact ⟨v', rfl, ho, hb⟩
end Go.Proofs.Ytlfkhinmncbkcaa
