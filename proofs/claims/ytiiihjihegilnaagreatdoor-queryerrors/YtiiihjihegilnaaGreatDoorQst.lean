/- The contract of the reference's Sets. -/
import Derived.Test.YtiiihjihegilnaaGreatDoorQrs
import Derived.Test.YtiiihjihegilnaaGreatDoorQap
namespace Go.Proofs.YtiiihjihegilnaaGreatDoor
open Go.RowKit Go.Sort

theorem RdsS.at {w : World} {ao : Option Addr} {n cap : Nat} {l : List St} (h : RdsS w (.slice ao n cap) l) : n = l.length ∧ n ≤ cap ∧ cap ≤ maxLen ∧ (0 < l.length → ∃ b off, ao = some ⟨b, off, none⟩ ∧ ∀ i (hi : i < l.length), w.cell? ⟨b, off + i, none⟩ = some l[i].1) := by
  obtain ⟨e0, e1, e2, e3, e4, e5⟩ := h.r.cells (by decide)
  refine ⟨e0, by omega, e3, fun hp => ?_⟩
  obtain ⟨b, off, e, hc⟩ := e4 hp
  exact ⟨b, off, e, fun i hi => hc i _ (by rw [List.getElem?_map, List.getElem?_eq_getElem hi]; rfl)⟩
theorem Rds.ints {w : World} {ao : Option Addr} {n cap : Nat} {l : List Int} (h : Rds w (.slice ao n cap) (iv l)) : n = l.length ∧ n ≤ cap ∧ cap ≤ maxLen ∧ (0 < l.length → ∃ b off, ao = some ⟨b, off, none⟩ ∧ ∀ i, i < l.length → w.cell? ⟨b, off + i, none⟩ = some (.int .i64 (l.getD i 0))) := by
  obtain ⟨e0, e1, e2, e3⟩ := h.cells
  rw [iv_length] at e0 e1 e3
  refine ⟨e0, by omega, e2, fun hp => ?_⟩
  obtain ⟨b, off, e, hc⟩ := e3 hp
  exact ⟨b, off, e, fun i hi => hc i _ (iv_get l i hi)⟩
def snds (l : List St) : List (List Int) := l.map (·.2)
theorem snds_ext {a b : List St} (hl : a.length = b.length) (h : ∀ i (ha : i < a.length) (hb : i < b.length), a[i].2 = b[i].2) : snds a = snds b := by
  apply List.ext_getElem
  · simp [snds, hl]
  · intro i h1 h2
    simp only [snds, List.getElem_map]
    exact h i (by simpa [snds] using h1) (by simpa [snds] using h2)
theorem snds_ne {a b : List St} {i : Nat} (ha : i < a.length) (hb : i < b.length) (h : a[i].2 ≠ b[i].2) : snds a ≠ snds b := fun e => h (by
  have h1 : (snds a)[i]'(by simpa [snds] using ha) = a[i].2 := by simp [snds]
  have h2 : (snds b)[i]'(by simpa [snds] using hb) = b[i].2 := by simp [snds]
  rw [← h1, ← h2]; simp only [e])
end Go.Proofs.YtiiihjihegilnaaGreatDoor
