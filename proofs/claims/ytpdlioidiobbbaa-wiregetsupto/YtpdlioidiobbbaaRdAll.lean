/- Contracts of the readers' Int, Left and End, the program's and the reference's. -/
import Derived.Test.YtpdlioidiobbbaaRdRef
namespace Go.Proofs.Ytpdlioidiobbbaa
open Go.RowKit

def lf (l : List UInt8) (p e : Nat) : Nat := if e = 0 then l.length - p else 0
def en (l : List UInt8) (p e : Nat) : Nat := if e ≠ 0 then e else if p < l.length then 12 else 0

theorem PS.shape {B : Nat} {w : World} {R : Nat} {l : List UInt8} {p e : Nat} (h : PS B w R l p e) : ∃ a c, w.heap[R]? = some (.cells #[.slice a (lf l p e) c, .int .i64 (e : Int)] 136 (0, 0)) ∧ ReadsB B w (.slice a (lf l p e) c) (if e = 0 then l.drop p else []) ∧ lf l p e ≤ c ∧ c ≤ maxLen := by
  obtain ⟨hB, hp, lv, hh, hr, hn⟩ := h
  obtain ⟨a, c, he, h1, h2, _⟩ := id hr.1
  have e1 : (if e = 0 then l.drop p else []).length = lf l p e := by unfold lf; split <;> simp
  rw [e1] at he h1
  subst he
  exact ⟨a, c, hh, hr, h1, h2⟩

set_option maxHeartbeats 400000 in
theorem left_p (B : Nat) (w : World) (R : Nat) (l : List UInt8) (p e : Nat) (h : PS B w R l p e) :
    Calls Try.prog 117 #[.pointer (some ⟨R, 0, none⟩)] w fun er w' => er = .returned (.int .i64 (lf l p e : Nat)) ∧ w' = w := by
  obtain ⟨a, c, hh, _, _⟩ := h.shape
  have c0 : w.cell? ⟨R, 0, none⟩ = some (.slice a (lf l p e) c) := by rw [cell_of_row w R 0 _ 136 (0, 0) hh]; rfl
  clear hh h
  generalize lf l p e = n at *
  go_enter Try.func117, Try.ntmps117
  go_wp2
  go_ret
  exact ⟨rfl, rfl⟩

set_option maxHeartbeats 400000 in
theorem left_k (w : World) (K : Nat) (v : Value) (l : List UInt8) (p e : Nat) (h : KS w K v p e) (hr : Reads w v l) (hp : p ≤ l.length) :
    Calls Try.prog 110 #[.pointer (some ⟨K, 0, none⟩)] w fun er w' => er = .returned (.int .i64 (lf l p e : Nat)) ∧ ∃ n, w' = w.drewN n := by
  obtain ⟨c0, c1, c2, f⟩ := h.cells
  obtain ⟨ao, cap, rfl, h1, h2, _⟩ := id hr
  unfold maxLen at h2
  clear h hr f
  by_cases he : e = 0
  · subst he
    have e1 : ((l.length : Int) - (p : Int)) = (lf l p 0 : Nat) := by unfold lf; rw [if_pos rfl]; omega
    have H := hide e1
    clear e1
    go_enter Try.func110, Try.ntmps110
    go_wp2_with fail
    go_quiet (fail)
    go_wp2
    go_ret
    exact ⟨ret_int (unhide H), _, rfl⟩
  · have heb : ((e : Int) != 0) = true := by rw [bne_iff_ne]; omega
    have e1 : lf l p e = 0 := by unfold lf; rw [if_neg he]
    rw [e1]
    clear e1
    go_enter Try.func110, Try.ntmps110
    go_wp2
    go_ret
    exact ⟨rfl, 0, rfl⟩

set_option maxHeartbeats 400000 in
theorem end_p (B : Nat) (w : World) (R : Nat) (l : List UInt8) (p e : Nat) (h : PS B w R l p e) :
    Calls Try.prog 57 #[.pointer (some ⟨R, 0, none⟩)] w fun er w' => er = .returned (.int .i64 (en l p e : Nat)) ∧ w' = w := by
  obtain ⟨a, c, hh, _, _⟩ := h.shape
  have c0 : w.cell? ⟨R, 0, none⟩ = some (.slice a (lf l p e) c) := by rw [cell_of_row w R 0 _ 136 (0, 0) hh]; rfl
  have c1 : w.cell? ⟨R, 1, none⟩ = some (.int .i64 (e : Int)) := by rw [cell_of_row w R 1 _ 136 (0, 0) hh]; rfl
  have hp := h.2.1
  clear hh h
  by_cases he : e = 0
  · subst he
    have hl : lf l p 0 = l.length - p := rfl
    rw [hl] at c0
    clear hl
    by_cases hlt : p < l.length
    · have hq : (0 : Int) < ((l.length - p : Nat) : Int) := by omega
      have e1 : en l p 0 = 12 := by simp [en, hlt]
      rw [e1]
      clear e1
      generalize l.length - p = n at *
      go_enter Try.func57, Try.ntmps57
      go_wp2
      go_ret
      exact ⟨rfl, rfl⟩
    · have hq : l.length - p = 0 := by omega
      rw [hq] at c0
      have e1 : en l p 0 = 0 := by simp [en, hlt]
      rw [e1]
      clear e1 hq
      go_enter Try.func57, Try.ntmps57
      go_wp2
      go_ret
      exact ⟨rfl, rfl⟩
  · have heb : ((e : Int) != 0) = true := by rw [bne_iff_ne]; omega
    have e1 : en l p e = e := by simp [en, he]
    rw [e1]
    clear e1
    go_enter Try.func57, Try.ntmps57
    go_wp2
    go_ret
    exact ⟨rfl, rfl⟩

set_option maxHeartbeats 400000 in
theorem end_k (w : World) (K : Nat) (v : Value) (l : List UInt8) (p e : Nat) (h : KS w K v p e) (hr : Reads w v l) :
    Calls Try.prog 68 #[.pointer (some ⟨K, 0, none⟩)] w fun er w' => er = .returned (.int .i64 (en l p e : Nat)) ∧ ∃ n, w' = w.drewN n := by
  obtain ⟨c0, c1, c2, f⟩ := h.cells
  obtain ⟨ao, cap, rfl, h1, h2, _⟩ := id hr
  unfold maxLen at h2
  clear h hr f
  by_cases he : e = 0
  · subst he
    by_cases hlt : p < l.length
    · have hq : (p : Int) < (l.length : Int) := by omega
      have e1 : en l p 0 = 12 := by simp [en, hlt]
      rw [e1]
      clear e1
      go_enter Try.func68, Try.ntmps68
      go_wp2_with fail
      go_quiet (fail)
      go_wp2
      go_ret
      exact ⟨rfl, _, rfl⟩
    · have hq : decide ((p : Int) < (l.length : Int)) = false := by simp; omega
      have e1 : en l p 0 = 0 := by simp [en, hlt]
      rw [e1]
      clear e1
      go_enter Try.func68, Try.ntmps68
      go_wp2_with fail
      go_quiet (fail)
      go_wp2
      go_ret
      exact ⟨rfl, _, rfl⟩
  · have heb : ((e : Int) == 0) = false := by rw [beq_eq_false_iff_ne]; omega
    have e1 : en l p e = e := by simp [en, he]
    rw [e1]
    clear e1
    go_enter Try.func68, Try.ntmps68
    go_wp2_with fail
    go_quiet (fail)
    go_wp2
    go_ret
    exact ⟨rfl, _, rfl⟩
end Go.Proofs.Ytpdlioidiobbbaa
