/- The contract of the reference's May. -/
import Derived.Test.YtkoihniggoelnaaRChk
namespace Go.Proofs.Ytkoihniggoelnaa
open Go.RowKit Go.Sort

theorem longL_iff (l : List Str) : longL l = false ↔ ∀ j, j < l.length → (l.getD j []).length ≤ 64 := by
  unfold longL
  rw [List.any_eq_false]
  constructor
  · intro h j hj
    have := h _ (List.getElem_mem hj)
    have e : l.getD j [] = l[j] := by simp [hj]
    rw [e]; simpa using this
  · intro h x hx
    obtain ⟨j, hj, rfl⟩ := List.getElem_of_mem hx
    have := h j hj
    have e : l.getD j [] = l[j] := by simp [hj]
    rw [e] at this; simpa using this
/-- What the reference answers, behind Fine. -/
def rmayK (k : Int) (p : P0) : Bool :=
  if k = 5 then (if (!longL p.2.2 && riseL p.2.2) = true then (if p.1 = 0 then decide (p.2.1 = 0) && decide (p.2.2.length = 0) else decide (p.2.1 = 0) && (decide (0 < p.2.2.length) && decide ((p.2.2.length : Int) ≤ p.1))) else false)
  else if p.2.2.length = 0 then (if p.1 = 0 ∨ k = 1 then decide (p.2.1 = 0) else true) else false
theorem rmay_same (D M k c : Int) (p : P0) (h0 : 0 ≤ p.1) : (fitv D M k c && rmayK k p) = mayP D M k c p := by
  unfold mayP
  cases hf : fitv D M k c with
  | false => rfl
  | true =>
    rw [Bool.true_and, Bool.true_and]
    obtain ⟨n, v, ts⟩ := p
    simp only at h0
    unfold rmayK mayK mayT
    simp only
    by_cases h5 : k = 5
    · rw [if_pos h5, if_pos h5]
      rcases Nat.eq_zero_or_pos ts.length with hl | hl
      · have : ts = [] := List.eq_nil_of_length_eq_zero hl
        subst this
        by_cases hn : n = 0
        · subst hn; simp [longL, riseL]
        · simp [longL, riseL, hn]
      · by_cases hn : n = 0
        · subst hn
          have : ¬ ts.length = 0 := by omega
          simp [this]
        · cases longL ts <;> cases riseL ts <;> by_cases hv : v = 0 <;> simp [hl, hn, hv]
    · rw [if_neg h5, if_neg h5]
      by_cases h2 : k = 2 ∨ k = 3 ∨ k = 4
      · rw [if_pos h2]
        have h1 : k ≠ 1 := by omega
        by_cases hl : ts.length = 0
        · by_cases hn : n = 0
          · simp [hl, hn]
          · simp [hl, hn, h1]
        · simp [hl]
      · rw [if_neg h2]
        have h1 : k = 1 := by
          unfold fitv at hf
          by_cases e : k = 1
          · exact e
          · rw [if_neg e, if_neg h2, if_neg h5] at hf; cases hf
        by_cases hl : ts.length = 0
        · simp [hl, h1]
        · simp [hl]
end Go.Proofs.Ytkoihniggoelnaa
