/- Contracts of the readers' Int, Left and End, the program's and the reference's. -/
import Derived.Test.YtklnheonlnnjoaaRdRef
namespace Go.Proofs.Ytklnheonlnnjoaa
open Go.RowKit

def unz (n : Nat) : Int := if n % 2 = 1 then -((n / 2 : Nat) : Int) - 1 else ((n / 2 : Nat) : Int)

theorem unz_odd (n : Nat) (hn : n < 18446744073709551616) (h : n % 2 = 1) : wrap64 (bits .xor .u64 IntKind.u64.max ((n : Int) / 2)) = unz n := by
  have e2 : IntKind.u64.max = ((2 ^ 64 - 1 : Nat) : Int) := by decide
  have e3 : (n : Int) / 2 = ((n / 2 : Nat) : Int) := by omega
  rw [e2, e3, bits_xor_u64_nat _ _ (by decide) (by omega), Lib.xor_ones64 _ (by omega), ← IntWalk.i64_left, IntKind.wrap_i64]
  unfold unz
  rw [if_pos h]
  omega

set_option maxHeartbeats 400000 in
theorem unfolded_any (w : World) (n : Nat) (hn : n < 18446744073709551616) :
    Calls Try.prog 38 #[.int .u64 n] w fun er w' => er = .returned (.int .i64 (unz n)) ∧ w' = w := by
  have ha : bits .and .u64 (n : Int) 1 = (n : Int) % 2 := Lib.u64_and1 (n : Int) (by omega) (by omega)
  by_cases h : n % 2 = 1
  · have hb : (bits .and .u64 (n : Int) 1 == 1) = true := by rw [ha, beq_iff_eq]; omega
    have H := hide (unz_odd n hn h)
    clear h ha
    go_enter Try.func38, Try.ntmps38
    go_wp2
    go_ret
    exact ⟨ret_int (unhide H), rfl⟩
  · have hb : (bits .and .u64 (n : Int) 1 == 1) = false := by rw [ha, beq_eq_false_iff_ne]; omega
    have H := hide h
    clear h ha
    go_enter Try.func38, Try.ntmps38
    go_wp2
    go_ret
    exact ⟨ret_int (by unfold unz; rw [if_neg (unhide H)]; omega), rfl⟩

set_option maxHeartbeats 400000 in
theorem int_p (B : Nat) (w : World) (R : Nat) (l : List UInt8) (p e : Nat) (h : PS B w R l p e) :
    Calls Try.prog 20 #[.pointer (some ⟨R, 0, none⟩)] w fun er w' => er = .returned (.int .i64 (unz (Rd.uS l p e).1)) ∧ PS B w' R l (Rd.uS l p e).2.1 (Rd.uS l p e).2.2 ∧ w.grownBy w' (some R) := by
  have hlt := Rd.uS_lt l p e
  go_enter Try.func20, Try.ntmps20
  go_wp2_with fail
  refine (uint_p B w R l p e h).mono ?_
  rintro er w1 ⟨rfl, h1, g1⟩
  go_wp2_with fail
  refine (unfolded_any _ _ hlt).mono ?_
  rintro er w2 ⟨rfl, rfl⟩
  go_wp2_with fail
  go_ret
  exact ⟨rfl, h1, g1⟩

set_option maxHeartbeats 400000 in
theorem refint_rd (w : World) (K : Nat) (v : Value) (l : List UInt8) (p e : Nat) (h : KS w K v p e) (hr : Reads w v l) (hp : p ≤ l.length) :
    Calls Try.prog 21 #[.pointer (some ⟨K, 0, none⟩)] w fun er w' => er = .returned (.int .i64 (unz (Rd.uS l p e).1)) ∧ KS w' K v (Rd.uS l p e).2.1 (Rd.uS l p e).2.2 ∧ w.grownBy w' (some K) := by
  have hlt := Rd.uS_lt l p e
  go_enter Try.func21, Try.ntmps21
  go_wp2_with fail
  refine (refrd_any w K v l p e h hr hp).mono ?_
  rintro er w1 ⟨rfl, h1, g1⟩
  generalize hne : (Rd.uS l p e).1 = n at *
  have HE := hide hne
  clear hne
  by_cases hm : n % 2 = 1
  · have hb : ((n : Int) % 2 == 0) = false := by rw [beq_eq_false_iff_ne]; omega
    have H := hide hm
    clear hm
    go_wp2
    go_ret
    rw [unhide HE]
    exact ⟨ret_int (by unfold unz; rw [if_pos (unhide H)]; omega), h1, g1⟩
  · have hb : ((n : Int) % 2 == 0) = true := by rw [beq_iff_eq]; omega
    have H := hide hm
    clear hm
    go_wp2
    go_ret
    rw [unhide HE]
    exact ⟨ret_int (by unfold unz; rw [if_neg (unhide H)]; omega), h1, g1⟩

def lf (l : List UInt8) (p e : Nat) : Nat := if e = 0 then l.length - p else 0
def en (l : List UInt8) (p e : Nat) : Nat := if e ≠ 0 then e else if p < l.length then 12 else 0

theorem PS.shape {B : Nat} {w : World} {R : Nat} {l : List UInt8} {p e : Nat} (h : PS B w R l p e) : ∃ a c, w.heap[R]? = some (.cells #[.slice a (lf l p e) c, .int .i64 (e : Int)] 57 (0, 0)) ∧ ReadsB B w (.slice a (lf l p e) c) (if e = 0 then l.drop p else []) ∧ lf l p e ≤ c ∧ c ≤ maxLen := by
  obtain ⟨hB, hp, lv, hh, hr, hn⟩ := h
  obtain ⟨a, c, he, h1, h2, _⟩ := id hr.1
  have e1 : (if e = 0 then l.drop p else []).length = lf l p e := by unfold lf; split <;> simp
  rw [e1] at he h1
  subst he
  exact ⟨a, c, hh, hr, h1, h2⟩

set_option maxHeartbeats 400000 in
theorem left_p (B : Nat) (w : World) (R : Nat) (l : List UInt8) (p e : Nat) (h : PS B w R l p e) :
    Calls Try.prog 26 #[.pointer (some ⟨R, 0, none⟩)] w fun er w' => er = .returned (.int .i64 (lf l p e : Nat)) ∧ w' = w := by
  obtain ⟨a, c, hh, _, _⟩ := h.shape
  have c0 : w.cell? ⟨R, 0, none⟩ = some (.slice a (lf l p e) c) := by rw [cell_of_row w R 0 _ 57 (0, 0) hh]; rfl
  clear hh h
  generalize lf l p e = n at *
  go_enter Try.func26, Try.ntmps26
  go_wp2
  go_ret
  exact ⟨rfl, rfl⟩

set_option maxHeartbeats 400000 in
theorem left_k (w : World) (K : Nat) (v : Value) (l : List UInt8) (p e : Nat) (h : KS w K v p e) (hr : Reads w v l) (hp : p ≤ l.length) :
    Calls Try.prog 27 #[.pointer (some ⟨K, 0, none⟩)] w fun er w' => er = .returned (.int .i64 (lf l p e : Nat)) ∧ ∃ n, w' = w.drewN n := by
  obtain ⟨c0, c1, c2, f⟩ := h.cells
  obtain ⟨ao, cap, rfl, h1, h2, _⟩ := id hr
  unfold maxLen at h2
  clear h hr f
  by_cases he : e = 0
  · subst he
    have e1 : ((l.length : Int) - (p : Int)) = (lf l p 0 : Nat) := by unfold lf; rw [if_pos rfl]; omega
    have H := hide e1
    clear e1
    go_enter Try.func27, Try.ntmps27
    go_wp2_with fail
    go_quiet (fail)
    go_wp2
    go_ret
    exact ⟨ret_int (unhide H), _, rfl⟩
  · have heb : ((e : Int) != 0) = true := by rw [bne_iff_ne]; omega
    have e1 : lf l p e = 0 := by unfold lf; rw [if_neg he]
    rw [e1]
    clear e1
    go_enter Try.func27, Try.ntmps27
    go_wp2
    go_ret
    exact ⟨rfl, 0, rfl⟩

set_option maxHeartbeats 400000 in
theorem end_p (B : Nat) (w : World) (R : Nat) (l : List UInt8) (p e : Nat) (h : PS B w R l p e) :
    Calls Try.prog 28 #[.pointer (some ⟨R, 0, none⟩)] w fun er w' => er = .returned (.int .i64 (en l p e : Nat)) ∧ w' = w := by
  obtain ⟨a, c, hh, _, _⟩ := h.shape
  have c0 : w.cell? ⟨R, 0, none⟩ = some (.slice a (lf l p e) c) := by rw [cell_of_row w R 0 _ 57 (0, 0) hh]; rfl
  have c1 : w.cell? ⟨R, 1, none⟩ = some (.int .i64 (e : Int)) := by rw [cell_of_row w R 1 _ 57 (0, 0) hh]; rfl
  have hp := h.2.1
  clear hh h
  by_cases he : e = 0
  · subst he
    have hl : lf l p 0 = l.length - p := rfl
    rw [hl] at c0
    clear hl
    by_cases hlt : p < l.length
    · have hq : (0 : Int) < ((l.length - p : Nat) : Int) := by omega
      have e1 : en l p 0 = 12 := by simp [en, hlt]
      rw [e1]
      clear e1
      generalize l.length - p = n at *
      go_enter Try.func28, Try.ntmps28
      go_wp2
      go_ret
      exact ⟨rfl, rfl⟩
    · have hq : l.length - p = 0 := by omega
      rw [hq] at c0
      have e1 : en l p 0 = 0 := by simp [en, hlt]
      rw [e1]
      clear e1 hq
      go_enter Try.func28, Try.ntmps28
      go_wp2
      go_ret
      exact ⟨rfl, rfl⟩
  · have heb : ((e : Int) != 0) = true := by rw [bne_iff_ne]; omega
    have e1 : en l p e = e := by simp [en, he]
    rw [e1]
    clear e1
    go_enter Try.func28, Try.ntmps28
    go_wp2
    go_ret
    exact ⟨rfl, rfl⟩

set_option maxHeartbeats 400000 in
theorem end_k (w : World) (K : Nat) (v : Value) (l : List UInt8) (p e : Nat) (h : KS w K v p e) (hr : Reads w v l) :
    Calls Try.prog 29 #[.pointer (some ⟨K, 0, none⟩)] w fun er w' => er = .returned (.int .i64 (en l p e : Nat)) ∧ ∃ n, w' = w.drewN n := by
  obtain ⟨c0, c1, c2, f⟩ := h.cells
  obtain ⟨ao, cap, rfl, h1, h2, _⟩ := id hr
  unfold maxLen at h2
  clear h hr f
  by_cases he : e = 0
  · subst he
    by_cases hlt : p < l.length
    · have hq : (p : Int) < (l.length : Int) := by omega
      have e1 : en l p 0 = 12 := by simp [en, hlt]
      rw [e1]
      clear e1
      go_enter Try.func29, Try.ntmps29
      go_wp2_with fail
      go_quiet (fail)
      go_wp2
      go_ret
      exact ⟨rfl, _, rfl⟩
    · have hq : decide ((p : Int) < (l.length : Int)) = false := by simp; omega
      have e1 : en l p 0 = 0 := by simp [en, hlt]
      rw [e1]
      clear e1
      go_enter Try.func29, Try.ntmps29
      go_wp2_with fail
      go_quiet (fail)
      go_wp2
      go_ret
      exact ⟨rfl, _, rfl⟩
  · have heb : ((e : Int) == 0) = false := by rw [beq_eq_false_iff_ne]; omega
    have e1 : en l p e = e := by simp [en, he]
    rw [e1]
    clear e1
    go_enter Try.func29, Try.ntmps29
    go_wp2_with fail
    go_quiet (fail)
    go_wp2
    go_ret
    exact ⟨rfl, _, rfl⟩
end Go.Proofs.Ytklnheonlnnjoaa
