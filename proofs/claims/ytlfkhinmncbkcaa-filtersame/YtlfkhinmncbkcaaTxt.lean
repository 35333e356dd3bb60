/- Contracts of Contains, HasPrefix, holdsText. -/
import Derived.Test.YtlfkhinmncbkcaaChk
namespace Go.Proofs.Ytlfkhinmncbkcaa
open Go.RowKit Go.Sort

def pre (p t : Str) : Bool := p.isPrefixOf t
theorem beq_str {a b : Str} (h : a ≠ b) : (a == b) = false := beq_eq_false_iff_ne.2 h
theorem str_take (t : Str) (k : Nat) : (⟨t.toArray⟩ : ByteArray).extract 0 k = ⟨(t.take k).toArray⟩ := by
  apply ByteArray.ext
  apply Array.ext'
  rw [Lib.extract_data]
  simp
theorem pre_yes {s t : Str} (h : pre s t = true) : s.length ≤ t.length ∧ t.take s.length = s := by
  unfold pre at h
  rw [List.isPrefixOf_iff_prefix] at h
  exact ⟨h.length_le, (List.prefix_iff_eq_take.1 h).symm⟩
theorem pre_no {s t : Str} (h : ¬ pre s t = true) (_hl : s.length ≤ t.length) : t.take s.length ≠ s := fun e => h (by
  unfold pre
  rw [List.isPrefixOf_iff_prefix]
  exact List.prefix_iff_eq_take.2 e.symm)
set_option maxHeartbeats 800000 in
theorem pre0_any (w : World) (t s : Str) :
    Calls Try.prog 50 #[.string ⟨t.toArray⟩, .string ⟨s.toArray⟩] w fun e w' => e = .returned (.bool (pre s t)) ∧ w' = w := by
  have hsz := str_size t
  have hss := str_size s
  have tx := str_toList s
  by_cases hp : pre s t = true
  · rw [hp]
    obtain ⟨p1, p2⟩ := pre_yes hp
    have p1' : (s.length : Int) ≤ (t.length : Int) := by omega
    have p1d : decide ((s.length : Int) ≤ (t.length : Int)) = true := decide_eq_true p1'
    have st := str_take t s.length
    rw [p2] at st
    have hbb : (s == s) = true := beq_self_eq_true s
    clear hp p2
    go_enter Try.func50, Try.ntmps50
    go_wp2_with fail
    go_ret
    exact ⟨by simp, rfl⟩
  · have hp' : pre s t = false := by simpa using hp
    rw [hp']
    by_cases hsl : s.length ≤ t.length
    · have hsl' : (s.length : Int) ≤ (t.length : Int) := by omega
      have hne := beq_str (pre_no hp hsl)
      have st := str_take t s.length
      have t2 := str_toList (t.take s.length)
      generalize t.take s.length = t' at *
      clear hp hp'
      go_enter Try.func50, Try.ntmps50
      go_wp2_with fail
      go_ret
      exact ⟨by simp, rfl⟩
    · have hsl' : ¬ (s.length : Int) ≤ (t.length : Int) := by omega
      clear hp hp'
      go_enter Try.func50, Try.ntmps50
      go_wp2_with fail
      go_ret
      exact ⟨rfl, rfl⟩
theorem pre_any (w : World) (t s : Str) :
    Calls Try.prog 47 #[.string ⟨t.toArray⟩, .string ⟨s.toArray⟩] w fun e w' => e = .returned (.bool (pre s t)) ∧ w' = w := by
  have k := pre0_any w t s
  go_enter Try.func47, Try.ntmps47
  go_wp2_with fail
  refine k.mono ?_
  rintro e w5 ⟨rfl, rfl⟩
  go_wp2_with fail
  go_ret
  exact ⟨rfl, rfl⟩

def hasT (ts : List Str) (s : Str) : Bool := ts.any fun x => s == x
theorem hasT_true {ts : List Str} {s : Str} {i : Nat} (h : i < ts.length) (he : s = ts.getD i []) : hasT ts s = true := by
  unfold hasT
  rw [List.any_eq_true]
  refine ⟨ts[i], List.getElem_mem h, ?_⟩
  rw [getD_at h] at he
  rw [he]; exact beq_self_eq_true _
theorem hasT_false {ts : List Str} {s : Str} (h : ∀ i, i < ts.length → s ≠ ts.getD i []) : hasT ts s = false := by
  unfold hasT
  rw [List.any_eq_false]
  intro x hx
  obtain ⟨i, hi, rfl⟩ := List.mem_iff_getElem.1 hx
  have := h i hi
  rw [getD_at hi] at this
  rw [beq_str this]; simp
set_option maxHeartbeats 1600000 in
theorem idx_any (w : World) (v : Value) (ts : List Str) (s : Str) (h : Rds w v (sv ts)) :
    Calls Try.prog 49 #[v, .string ⟨s.toArray⟩] w fun e w' => ∃ i : Int, e = .returned (.int .i64 i) ∧ decide (0 ≤ i) = hasT ts s ∧ w' = w := by
  obtain ⟨ao, n, cap, rfl⟩ := h.sl
  obtain ⟨hn, hc1, hc2, hc3⟩ := h.cells
  rw [sv_length] at hn hc1
  rw [← hn] at hc1
  unfold maxLen at hc2
  have HN : Hid (n = ts.length) := hn
  have HH : Aside (∀ i, i < ts.length → ∃ b off, ao = some ⟨b, off, none⟩ ∧ w.cell? ⟨b, off + i, none⟩ = some (.string ⟨(ts.getD i []).toArray⟩)) := fun i hi => by
    obtain ⟨b, off, e, hc⟩ := hc3 (by rw [sv_length]; omega)
    exact ⟨b, off, e, hc i _ (sv_get ts i hi)⟩
  have tx := str_toList s
  clear h hn hc3
  go_enter Try.func49, Try.ntmps49
  go_wp2_with fail
  go_loopg [8] n (fun kx v8 wr => ∃ i : Nat, v8 = .int .i64 i ∧ i ≤ n ∧ n - i ≤ kx ∧ Hid (∀ j, j < i → s ≠ ts.getD j []) ∧ Hid (wr = w))
  case atStart => exact ⟨0, rfl, by omega, Nat.le_refl _, fun j hj => by omega, hide rfl⟩
  case round =>
    obtain ⟨i, rfl, hi, hkx, HJ, HW⟩ := hrel
    have hw := HW.out
    subst hw
    by_cases hlt : i < n
    · have hltz : (i : Int) < (n : Int) := by omega
      have hil : i < ts.length := by have := HN.out; omega
      obtain ⟨b, off, rfl, q⟩ := HH.out i hil
      generalize hs : ts.getD i [] = x at *
      have HS : Hid (ts.getD i [] = x) := hs
      have t2 := str_toList x
      clear hs
      by_cases he : s = x
      · have hb : (s == x) = true := by rw [he]; exact beq_self_eq_true x
        have HEq : Hid (s = x) := he
        clear he
        go_wp2_with fail
        go_ret
        refine ⟨_, rfl, ?_, rfl⟩
        rw [hasT_true hil (by rw [HS.out]; exact HEq.out)]
        exact decide_eq_true (by omega)
      · have hb := beq_str he
        have HEq : Hid (s ≠ x) := he
        clear he
        go_wp2_with fail
        go_roundg (n - (i + 1))
        case measure => omega
        case rel =>
          refine ⟨i + 1, by go_num, by omega, Nat.le_refl _, fun j hj => ?_, hide rfl⟩
          by_cases hji : j = i
          · subst hji; rw [HS.out]; exact HEq.out
          · exact HJ.out j (by omega)
    · have hltz : ¬ (i : Int) < (n : Int) := by omega
      go_wp2_with fail
      go_ret
      refine ⟨_, rfl, ?_, rfl⟩
      rw [hasT_false fun j hj => HJ.out j (by have := HN.out; omega)]
      rfl
set_option maxHeartbeats 800000 in
theorem has_any (w : World) (v : Value) (ts : List Str) (s : Str) (h : Rds w v (sv ts)) :
    Calls Try.prog 46 #[v, .string ⟨s.toArray⟩] w fun e w' => e = .returned (.bool (hasT ts s)) ∧ w' = w := by
  have kI := idx_any w v ts s h
  obtain ⟨ao, n, cap, rfl⟩ := h.sl
  clear h
  go_enter Try.func46, Try.ntmps46
  go_wp2_with fail
  refine kI.mono ?_
  rintro e w5 ⟨i, rfl, hi, rfl⟩
  have HI : Hid _ := hi
  clear hi kI
  go_wp2_with fail
  go_ret
  refine ⟨?_, rfl⟩
  have h1 : hasT ts s = decide (0 ≤ i) := HI.out.symm
  rw [h1]
  rfl
end Go.Proofs.Ytlfkhinmncbkcaa
