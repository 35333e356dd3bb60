/- Contracts of the comparisons: numbers, texts, rows of them, facts. -/
import Derived.Test.YtgdeongeonhlpaaMem
import Derived.Test.YtgdeongeonhlpaaChecked
import Derived.Deep.RegionWith
import Derived.Deep.QuietTactic
import Derived.Deep.DeepCutAuto
import Derived.WalkSmall
import Derived.BigQuiet
import Derived.Sort.Walk0
namespace Go.Proofs.Ytgdeongeonhlpaa
open Go.RowKit Go.Sort

theorem str_toList' (t : Str) : (⟨t.toArray⟩ : ByteArray).toList = t := str_toList t

set_option maxHeartbeats 400000 in
theorem cmp_int64 (w : World) (x y : Int) :
    Calls Try.prog 29 #[.int .i64 x, .int .i64 y] w fun e w' => e = .returned (.int .i64 (cmpI x y)) ∧ w' = w := by
  have hN : ∀ z : Int, Calls Try.prog 42 #[.int .i64 z] w fun e w' => e = .returned (.bool false) ∧ w' = w := fun z => by
    go_enter Try.func42, Try.ntmps42
    go_wp2
    go_ret
    exact ⟨rfl, rfl⟩
  rcases Int.lt_trichotomy x y with h | h | h
  · have e : cmpI x y = -1 := by unfold cmpI; rw [if_pos h]
    rw [e]
    clear e
    go_enter Try.func29, Try.ntmps29
    go_wp2_with (go_at_call 42; refine (hN _).mono ?_; rintro e w' ⟨rfl, rfl⟩)
    go_ret
    exact ⟨rfl, rfl⟩
  · have e : cmpI x y = 0 := by unfold cmpI; rw [if_neg (by omega), if_neg (by omega)]
    rw [e]
    have h1 : ¬ x < y := by omega
    have h2 : ¬ y < x := by omega
    clear e h
    go_enter Try.func29, Try.ntmps29
    go_wp2_with (go_at_call 42; refine (hN _).mono ?_; rintro e w' ⟨rfl, rfl⟩)
    go_ret
    exact ⟨rfl, rfl⟩
  · have e : cmpI x y = 1 := by unfold cmpI; rw [if_neg (by omega), if_pos h]
    rw [e]
    have h1 : ¬ x < y := by omega
    clear e
    go_enter Try.func29, Try.ntmps29
    go_wp2_with (go_at_call 42; refine (hN _).mono ?_; rintro e w' ⟨rfl, rfl⟩)
    go_ret
    exact ⟨rfl, rfl⟩

set_option maxHeartbeats 400000 in
theorem cmp_int (w : World) (x y : Int) :
    Calls Try.prog 44 #[.int .i64 x, .int .i64 y] w fun e w' => e = .returned (.int .i64 (cmpI x y)) ∧ w' = w := by
  have hN : ∀ z : Int, Calls Try.prog 52 #[.int .i64 z] w fun e w' => e = .returned (.bool false) ∧ w' = w := fun z => by
    go_enter Try.func52, Try.ntmps52
    go_wp2
    go_ret
    exact ⟨rfl, rfl⟩
  rcases Int.lt_trichotomy x y with h | h | h
  · have e : cmpI x y = -1 := by unfold cmpI; rw [if_pos h]
    rw [e]
    clear e
    go_enter Try.func44, Try.ntmps44
    go_wp2_with (go_at_call 52; refine (hN _).mono ?_; rintro e w' ⟨rfl, rfl⟩)
    go_ret
    exact ⟨rfl, rfl⟩
  · have e : cmpI x y = 0 := by unfold cmpI; rw [if_neg (by omega), if_neg (by omega)]
    rw [e]
    have h1 : ¬ x < y := by omega
    have h2 : ¬ y < x := by omega
    clear e h
    go_enter Try.func44, Try.ntmps44
    go_wp2_with (go_at_call 52; refine (hN _).mono ?_; rintro e w' ⟨rfl, rfl⟩)
    go_ret
    exact ⟨rfl, rfl⟩
  · have e : cmpI x y = 1 := by unfold cmpI; rw [if_neg (by omega), if_pos h]
    rw [e]
    have h1 : ¬ x < y := by omega
    clear e
    go_enter Try.func44, Try.ntmps44
    go_wp2_with (go_at_call 52; refine (hN _).mono ?_; rintro e w' ⟨rfl, rfl⟩)
    go_ret
    exact ⟨rfl, rfl⟩

set_option maxHeartbeats 400000 in
theorem cmp_string (w : World) (x y : Str) :
    Calls Try.prog 43 #[.string ⟨x.toArray⟩, .string ⟨y.toArray⟩] w fun e w' => e = .returned (.int .i64 (cmpS x y)) ∧ w' = w := by
  have hN : ∀ z : Str, Calls Try.prog 51 #[.string ⟨z.toArray⟩] w fun e w' => e = .returned (.bool false) ∧ w' = w := fun z => by
    go_enter Try.func51, Try.ntmps51
    go_wp2
    go_ret
    exact ⟨by simp, rfl⟩
  have tx := str_toList x
  have ty := str_toList y
  by_cases h : x < y
  · have e : cmpS x y = -1 := by unfold cmpS; rw [if_pos h]
    have hb : Op.bytesLess x y = true := by rw [bytesLess_eq]; exact decide_eq_true h
    rw [e]
    clear e
    go_enter Try.func43, Try.ntmps43
    go_wp2_with (go_at_call 51; refine (hN _).mono ?_; rintro e w' ⟨rfl, rfl⟩)
    go_ret
    exact ⟨rfl, rfl⟩
  · have hb : Op.bytesLess x y = false := by rw [bytesLess_eq]; exact decide_eq_false h
    by_cases h2 : y < x
    · have e : cmpS x y = 1 := by unfold cmpS; rw [if_neg h, if_pos h2]
      have hne : (x == y) = false := beq_eq_false_iff_ne.2 fun k => lt_irr x (by rw [k] at h2 ⊢; exact h2)
      rw [e]
      clear e
      go_enter Try.func43, Try.ntmps43
      go_wp2_with (go_at_call 51; refine (hN _).mono ?_; rintro e w' ⟨rfl, rfl⟩)
      go_ret
      exact ⟨rfl, rfl⟩
    · have e : cmpS x y = 0 := by unfold cmpS; rw [if_neg h, if_neg h2]
      have hq : x = y := eq_of_not h h2
      have hne : (x == y) = true := by rw [hq]; exact beq_self_eq_true y
      rw [e]
      clear e hq
      go_enter Try.func43, Try.ntmps43
      go_wp2_with (go_at_call 51; refine (hN _).mono ?_; rintro e w' ⟨rfl, rfl⟩)
      go_ret
      exact ⟨rfl, rfl⟩

set_option maxHeartbeats 1600000 in
theorem rows_string (w : World) (va vb : Value) (a b : List Str) (ha : Rds w va (sv a)) (hb : Rds w vb (sv b)) :
    Calls Try.prog 30 #[va, vb] w fun e w' => e = .returned (.int .i64 (cmpR cmpS a b)) ∧ ∃ q, w' = w.drewN q := by
  obtain ⟨aa, na, ca, rfl⟩ : ∃ ao n cap, va = .slice ao n cap := by obtain ⟨ao, cap, rfl, _⟩ := ha; exact ⟨_, _, _, rfl⟩
  obtain ⟨ab, nb, cb, rfl⟩ : ∃ ao n cap, vb = .slice ao n cap := by obtain ⟨ao, cap, rfl, _⟩ := hb; exact ⟨_, _, _, rfl⟩
  obtain ⟨rfl, a1, a2, a3⟩ := ha.cells
  obtain ⟨rfl, b1, b2, b3⟩ := hb.cells
  simp only [sv_length] at *
  unfold maxLen at a2 b2
  obtain ⟨n, hn⟩ : ∃ n, n = a.length := ⟨_, rfl⟩
  obtain ⟨m, hm⟩ : ∃ m, m = b.length := ⟨_, rfl⟩
  rw [← hn] at a1 a3 ⊢
  rw [← hm] at b1 b3 ⊢
  have HN : Hid (n = a.length ∧ m = b.length) := ⟨hn, hm⟩
  clear hn hm ha hb
  by_cases hmn : (m : Int) < (n : Int)
  · have hmin : min (n : Int) (m : Int) = (m : Int) := by omega
    go_enter Try.func30, Try.ntmps30
    go_wp2
    go_loopw [12] (fun vi wr => ∃ i q : Nat, vi = .int .i64 i ∧ i ≤ m ∧ wr = w.drewN q ∧ Hid (∀ j, j < i → cmpS (a.getD j []) (b.getD j []) = 0)) (fun vi _ => m - (intOf vi).toNat)
    case atStart => exact ⟨0, 0, rfl, by omega, rfl, fun j hj => by omega⟩
    case round =>
      obtain ⟨i, q, rfl, hi, rfl, HA⟩ := hrel
      by_cases hlt : i < m
      · have hltz : (i : Int) < (m : Int) := by omega
        have hin : (i : Int) < (n : Int) := by omega
        have him : (i : Int) < (m : Int) := by omega
        obtain ⟨p1, o1, rfl, c1⟩ := a3 (by omega)
        obtain ⟨p2, o2, rfl, c2⟩ := b3 (by omega)
        have r1 := c1 i _ (sv_get a i (by have := HN.out; omega))
        have r2 := c2 i _ (sv_get b i (by have := HN.out; omega))
        obtain ⟨x, hx⟩ : ∃ x, x = a.getD i [] := ⟨_, rfl⟩
        obtain ⟨y, hy⟩ : ∃ y, y = b.getD i [] := ⟨_, rfl⟩
        rw [← hx] at r1
        rw [← hy] at r2
        have HX : Hid (x = a.getD i [] ∧ y = b.getD i []) := ⟨hx, hy⟩
        obtain ⟨wq, hwq⟩ : ∃ x, x = w.drewN q := ⟨_, rfl⟩
        have r3 := r1
        rw [show w.cell? ⟨p1, o1 + i, none⟩ = wq.cell? ⟨p1, o1 + i, none⟩ by rw [hwq]; rfl] at r3
        have r4 := r2
        rw [show w.cell? ⟨p2, o2 + i, none⟩ = wq.cell? ⟨p2, o2 + i, none⟩ by rw [hwq]; rfl] at r4
        rw [← hwq]
        have HWQ : Hid (wq = w.drewN q) := hwq
        clear hx hy c1 c2 a3 b3 r1 r2 hwq
        by_cases hz : cmpS x y = 0
        · have hz2 : (cmpS x y != 0) = false := by simp [hz]
          obtain ⟨C, hC⟩ : ∃ C, C = cmpS x y := ⟨_, rfl⟩
          have kc : ∀ w', Calls Try.prog 43 #[.string ⟨x.toArray⟩, .string ⟨y.toArray⟩] w' fun e w'' => e = .returned (.int .i64 C) ∧ w'' = w' := fun w' => by rw [hC]; exact cmp_string w' x y
          rw [← hC] at hz hz2
          have HC : Hid (C = cmpS x y) := hC
          have HZ : Hid (C = 0) := hz
          clear hC hz
          go_wp2_with fail
          go_quiet ((go_at_call 43; exact Calls.quiet_of_same (kc _)))
          go_wp2_with fail
          go_roundw
          case rel =>
            refine ⟨i + 1, q + nq, by go_num, by omega, by rw [HWQ.out]; exact World.drewN_drewN _ _ _, fun j hj => ?_⟩
            by_cases hji : j = i
            · subst hji; rw [← HX.out.1, ← HX.out.2, ← HC.out]; exact HZ.out
            · exact HA.out j (by omega)
          case measure => simp [intOf]; omega
        · have hz2 : (cmpS x y != 0) = true := by simp [hz]
          obtain ⟨C, hC⟩ : ∃ C, C = cmpS x y := ⟨_, rfl⟩
          have kc : ∀ w', Calls Try.prog 43 #[.string ⟨x.toArray⟩, .string ⟨y.toArray⟩] w' fun e w'' => e = .returned (.int .i64 C) ∧ w'' = w' := fun w' => by rw [hC]; exact cmp_string w' x y
          rw [← hC] at hz hz2
          have HC : Hid (C = cmpS x y) := hC
          have HZ : Hid (¬ C = 0) := hz
          clear hC hz
          go_wp2_with fail
          go_quiet ((go_at_call 43; exact Calls.quiet_of_same (kc _)))
          go_wp2_with fail
          go_ret
          refine ⟨ret_int ?_, q + nq, by rw [HWQ.out]; exact World.drewN_drewN _ _ _⟩
          have h1 : i < a.length := by have := HN.out; omega
          have h2 : i < b.length := by have := HN.out; omega
          have e1 : x = a[i] := by rw [HX.out.1]; simp [h1]
          have e2 : y = b[i] := by rw [HX.out.2]; simp [h2]
          rw [cmpR_at cmpS_ord a b i h1 h2 (fun j k1 k2 hj => by have := HA.out j hj; simpa [k1, k2] using this) (by rw [← e1, ← e2, ← HC.out]; exact HZ.out), ← e1, ← e2]
          exact HC.out
      · have hltz : ¬ (i : Int) < (m : Int) := by omega
        have hiL : m ≤ i := by omega
        have hfin : cmpR cmpS a b = cmpI n m := by
          rw [HN.out.1, HN.out.2]
          refine cmpR_len cmpS_ord a b fun j h1 h2 => ?_
          have := HA.out j (by have := HN.out; omega)
          simpa [h1, h2] using this
        have HF : Hid _ := hfin
        clear hfin
        go_wp2_with (go_at_call 44; refine (cmp_int _ _ _).mono ?_; rintro e w' ⟨rfl, rfl⟩)
        go_ret
        exact ⟨by rw [HF.out]; rfl, q, rfl⟩
  · have hmin : min (n : Int) (m : Int) = (n : Int) := by omega
    go_enter Try.func30, Try.ntmps30
    go_wp2
    go_loopw [12] (fun vi wr => ∃ i q : Nat, vi = .int .i64 i ∧ i ≤ n ∧ wr = w.drewN q ∧ Hid (∀ j, j < i → cmpS (a.getD j []) (b.getD j []) = 0)) (fun vi _ => n - (intOf vi).toNat)
    case atStart => exact ⟨0, 0, rfl, by omega, rfl, fun j hj => by omega⟩
    case round =>
      obtain ⟨i, q, rfl, hi, rfl, HA⟩ := hrel
      by_cases hlt : i < n
      · have hltz : (i : Int) < (n : Int) := by omega
        have hin : (i : Int) < (n : Int) := by omega
        have him : (i : Int) < (m : Int) := by omega
        obtain ⟨p1, o1, rfl, c1⟩ := a3 (by omega)
        obtain ⟨p2, o2, rfl, c2⟩ := b3 (by omega)
        have r1 := c1 i _ (sv_get a i (by have := HN.out; omega))
        have r2 := c2 i _ (sv_get b i (by have := HN.out; omega))
        obtain ⟨x, hx⟩ : ∃ x, x = a.getD i [] := ⟨_, rfl⟩
        obtain ⟨y, hy⟩ : ∃ y, y = b.getD i [] := ⟨_, rfl⟩
        rw [← hx] at r1
        rw [← hy] at r2
        have HX : Hid (x = a.getD i [] ∧ y = b.getD i []) := ⟨hx, hy⟩
        obtain ⟨wq, hwq⟩ : ∃ x, x = w.drewN q := ⟨_, rfl⟩
        have r3 := r1
        rw [show w.cell? ⟨p1, o1 + i, none⟩ = wq.cell? ⟨p1, o1 + i, none⟩ by rw [hwq]; rfl] at r3
        have r4 := r2
        rw [show w.cell? ⟨p2, o2 + i, none⟩ = wq.cell? ⟨p2, o2 + i, none⟩ by rw [hwq]; rfl] at r4
        rw [← hwq]
        have HWQ : Hid (wq = w.drewN q) := hwq
        clear hx hy c1 c2 a3 b3 r1 r2 hwq
        by_cases hz : cmpS x y = 0
        · have hz2 : (cmpS x y != 0) = false := by simp [hz]
          obtain ⟨C, hC⟩ : ∃ C, C = cmpS x y := ⟨_, rfl⟩
          have kc : ∀ w', Calls Try.prog 43 #[.string ⟨x.toArray⟩, .string ⟨y.toArray⟩] w' fun e w'' => e = .returned (.int .i64 C) ∧ w'' = w' := fun w' => by rw [hC]; exact cmp_string w' x y
          rw [← hC] at hz hz2
          have HC : Hid (C = cmpS x y) := hC
          have HZ : Hid (C = 0) := hz
          clear hC hz
          go_wp2_with fail
          go_quiet ((go_at_call 43; exact Calls.quiet_of_same (kc _)))
          go_wp2_with fail
          go_roundw
          case rel =>
            refine ⟨i + 1, q + nq, by go_num, by omega, by rw [HWQ.out]; exact World.drewN_drewN _ _ _, fun j hj => ?_⟩
            by_cases hji : j = i
            · subst hji; rw [← HX.out.1, ← HX.out.2, ← HC.out]; exact HZ.out
            · exact HA.out j (by omega)
          case measure => simp [intOf]; omega
        · have hz2 : (cmpS x y != 0) = true := by simp [hz]
          obtain ⟨C, hC⟩ : ∃ C, C = cmpS x y := ⟨_, rfl⟩
          have kc : ∀ w', Calls Try.prog 43 #[.string ⟨x.toArray⟩, .string ⟨y.toArray⟩] w' fun e w'' => e = .returned (.int .i64 C) ∧ w'' = w' := fun w' => by rw [hC]; exact cmp_string w' x y
          rw [← hC] at hz hz2
          have HC : Hid (C = cmpS x y) := hC
          have HZ : Hid (¬ C = 0) := hz
          clear hC hz
          go_wp2_with fail
          go_quiet ((go_at_call 43; exact Calls.quiet_of_same (kc _)))
          go_wp2_with fail
          go_ret
          refine ⟨ret_int ?_, q + nq, by rw [HWQ.out]; exact World.drewN_drewN _ _ _⟩
          have h1 : i < a.length := by have := HN.out; omega
          have h2 : i < b.length := by have := HN.out; omega
          have e1 : x = a[i] := by rw [HX.out.1]; simp [h1]
          have e2 : y = b[i] := by rw [HX.out.2]; simp [h2]
          rw [cmpR_at cmpS_ord a b i h1 h2 (fun j k1 k2 hj => by have := HA.out j hj; simpa [k1, k2] using this) (by rw [← e1, ← e2, ← HC.out]; exact HZ.out), ← e1, ← e2]
          exact HC.out
      · have hltz : ¬ (i : Int) < (n : Int) := by omega
        have hiL : n ≤ i := by omega
        have hfin : cmpR cmpS a b = cmpI n m := by
          rw [HN.out.1, HN.out.2]
          refine cmpR_len cmpS_ord a b fun j h1 h2 => ?_
          have := HA.out j (by have := HN.out; omega)
          simpa [h1, h2] using this
        have HF : Hid _ := hfin
        clear hfin
        go_wp2_with (go_at_call 44; refine (cmp_int _ _ _).mono ?_; rintro e w' ⟨rfl, rfl⟩)
        go_ret
        exact ⟨by rw [HF.out]; rfl, q, rfl⟩

set_option maxHeartbeats 1600000 in
theorem rows_int64 (w : World) (va vb : Value) (a b : List Int) (ha : Rds w va (iv a)) (hb : Rds w vb (iv b)) :
    Calls Try.prog 31 #[va, vb] w fun e w' => e = .returned (.int .i64 (cmpR cmpI a b)) ∧ ∃ q, w' = w.drewN q := by
  obtain ⟨aa, na, ca, rfl⟩ : ∃ ao n cap, va = .slice ao n cap := by obtain ⟨ao, cap, rfl, _⟩ := ha; exact ⟨_, _, _, rfl⟩
  obtain ⟨ab, nb, cb, rfl⟩ : ∃ ao n cap, vb = .slice ao n cap := by obtain ⟨ao, cap, rfl, _⟩ := hb; exact ⟨_, _, _, rfl⟩
  obtain ⟨rfl, a1, a2, a3⟩ := ha.cells
  obtain ⟨rfl, b1, b2, b3⟩ := hb.cells
  simp only [iv_length] at *
  unfold maxLen at a2 b2
  obtain ⟨n, hn⟩ : ∃ n, n = a.length := ⟨_, rfl⟩
  obtain ⟨m, hm⟩ : ∃ m, m = b.length := ⟨_, rfl⟩
  rw [← hn] at a1 a3 ⊢
  rw [← hm] at b1 b3 ⊢
  have HN : Hid (n = a.length ∧ m = b.length) := ⟨hn, hm⟩
  clear hn hm ha hb
  by_cases hmn : (m : Int) < (n : Int)
  · have hmin : min (n : Int) (m : Int) = (m : Int) := by omega
    go_enter Try.func31, Try.ntmps31
    go_wp2
    go_loopw [12] (fun vi wr => ∃ i q : Nat, vi = .int .i64 i ∧ i ≤ m ∧ wr = w.drewN q ∧ Hid (∀ j, j < i → cmpI (a.getD j 0) (b.getD j 0) = 0)) (fun vi _ => m - (intOf vi).toNat)
    case atStart => exact ⟨0, 0, rfl, by omega, rfl, fun j hj => by omega⟩
    case round =>
      obtain ⟨i, q, rfl, hi, rfl, HA⟩ := hrel
      by_cases hlt : i < m
      · have hltz : (i : Int) < (m : Int) := by omega
        have hin : (i : Int) < (n : Int) := by omega
        have him : (i : Int) < (m : Int) := by omega
        obtain ⟨p1, o1, rfl, c1⟩ := a3 (by omega)
        obtain ⟨p2, o2, rfl, c2⟩ := b3 (by omega)
        have r1 := c1 i _ (iv_get a i (by have := HN.out; omega))
        have r2 := c2 i _ (iv_get b i (by have := HN.out; omega))
        obtain ⟨x, hx⟩ : ∃ x, x = a.getD i 0 := ⟨_, rfl⟩
        obtain ⟨y, hy⟩ : ∃ y, y = b.getD i 0 := ⟨_, rfl⟩
        rw [← hx] at r1
        rw [← hy] at r2
        have HX : Hid (x = a.getD i 0 ∧ y = b.getD i 0) := ⟨hx, hy⟩
        obtain ⟨wq, hwq⟩ : ∃ x, x = w.drewN q := ⟨_, rfl⟩
        have r3 := r1
        rw [show w.cell? ⟨p1, o1 + i, none⟩ = wq.cell? ⟨p1, o1 + i, none⟩ by rw [hwq]; rfl] at r3
        have r4 := r2
        rw [show w.cell? ⟨p2, o2 + i, none⟩ = wq.cell? ⟨p2, o2 + i, none⟩ by rw [hwq]; rfl] at r4
        rw [← hwq]
        have HWQ : Hid (wq = w.drewN q) := hwq
        clear hx hy c1 c2 a3 b3 r1 r2 hwq
        by_cases hz : cmpI x y = 0
        · have hz2 : (cmpI x y != 0) = false := by simp [hz]
          obtain ⟨C, hC⟩ : ∃ C, C = cmpI x y := ⟨_, rfl⟩
          have kc : ∀ w', Calls Try.prog 29 #[.int .i64 x, .int .i64 y] w' fun e w'' => e = .returned (.int .i64 C) ∧ w'' = w' := fun w' => by rw [hC]; exact cmp_int64 w' x y
          rw [← hC] at hz hz2
          have HC : Hid (C = cmpI x y) := hC
          have HZ : Hid (C = 0) := hz
          clear hC hz
          go_wp2_with fail
          go_quiet ((go_at_call 29; exact Calls.quiet_of_same (kc _)))
          go_wp2_with fail
          go_roundw
          case rel =>
            refine ⟨i + 1, q + nq, by go_num, by omega, by rw [HWQ.out]; exact World.drewN_drewN _ _ _, fun j hj => ?_⟩
            by_cases hji : j = i
            · subst hji; rw [← HX.out.1, ← HX.out.2, ← HC.out]; exact HZ.out
            · exact HA.out j (by omega)
          case measure => simp [intOf]; omega
        · have hz2 : (cmpI x y != 0) = true := by simp [hz]
          obtain ⟨C, hC⟩ : ∃ C, C = cmpI x y := ⟨_, rfl⟩
          have kc : ∀ w', Calls Try.prog 29 #[.int .i64 x, .int .i64 y] w' fun e w'' => e = .returned (.int .i64 C) ∧ w'' = w' := fun w' => by rw [hC]; exact cmp_int64 w' x y
          rw [← hC] at hz hz2
          have HC : Hid (C = cmpI x y) := hC
          have HZ : Hid (¬ C = 0) := hz
          clear hC hz
          go_wp2_with fail
          go_quiet ((go_at_call 29; exact Calls.quiet_of_same (kc _)))
          go_wp2_with fail
          go_ret
          refine ⟨ret_int ?_, q + nq, by rw [HWQ.out]; exact World.drewN_drewN _ _ _⟩
          have h1 : i < a.length := by have := HN.out; omega
          have h2 : i < b.length := by have := HN.out; omega
          have e1 : x = a[i] := by rw [HX.out.1]; simp [h1]
          have e2 : y = b[i] := by rw [HX.out.2]; simp [h2]
          rw [cmpR_at cmpI_ord a b i h1 h2 (fun j k1 k2 hj => by have := HA.out j hj; simpa [k1, k2] using this) (by rw [← e1, ← e2, ← HC.out]; exact HZ.out), ← e1, ← e2]
          exact HC.out
      · have hltz : ¬ (i : Int) < (m : Int) := by omega
        have hiL : m ≤ i := by omega
        have hfin : cmpR cmpI a b = cmpI n m := by
          rw [HN.out.1, HN.out.2]
          refine cmpR_len cmpI_ord a b fun j h1 h2 => ?_
          have := HA.out j (by have := HN.out; omega)
          simpa [h1, h2] using this
        have HF : Hid _ := hfin
        clear hfin
        go_wp2_with (go_at_call 44; refine (cmp_int _ _ _).mono ?_; rintro e w' ⟨rfl, rfl⟩)
        go_ret
        exact ⟨by rw [HF.out]; rfl, q, rfl⟩
  · have hmin : min (n : Int) (m : Int) = (n : Int) := by omega
    go_enter Try.func31, Try.ntmps31
    go_wp2
    go_loopw [12] (fun vi wr => ∃ i q : Nat, vi = .int .i64 i ∧ i ≤ n ∧ wr = w.drewN q ∧ Hid (∀ j, j < i → cmpI (a.getD j 0) (b.getD j 0) = 0)) (fun vi _ => n - (intOf vi).toNat)
    case atStart => exact ⟨0, 0, rfl, by omega, rfl, fun j hj => by omega⟩
    case round =>
      obtain ⟨i, q, rfl, hi, rfl, HA⟩ := hrel
      by_cases hlt : i < n
      · have hltz : (i : Int) < (n : Int) := by omega
        have hin : (i : Int) < (n : Int) := by omega
        have him : (i : Int) < (m : Int) := by omega
        obtain ⟨p1, o1, rfl, c1⟩ := a3 (by omega)
        obtain ⟨p2, o2, rfl, c2⟩ := b3 (by omega)
        have r1 := c1 i _ (iv_get a i (by have := HN.out; omega))
        have r2 := c2 i _ (iv_get b i (by have := HN.out; omega))
        obtain ⟨x, hx⟩ : ∃ x, x = a.getD i 0 := ⟨_, rfl⟩
        obtain ⟨y, hy⟩ : ∃ y, y = b.getD i 0 := ⟨_, rfl⟩
        rw [← hx] at r1
        rw [← hy] at r2
        have HX : Hid (x = a.getD i 0 ∧ y = b.getD i 0) := ⟨hx, hy⟩
        obtain ⟨wq, hwq⟩ : ∃ x, x = w.drewN q := ⟨_, rfl⟩
        have r3 := r1
        rw [show w.cell? ⟨p1, o1 + i, none⟩ = wq.cell? ⟨p1, o1 + i, none⟩ by rw [hwq]; rfl] at r3
        have r4 := r2
        rw [show w.cell? ⟨p2, o2 + i, none⟩ = wq.cell? ⟨p2, o2 + i, none⟩ by rw [hwq]; rfl] at r4
        rw [← hwq]
        have HWQ : Hid (wq = w.drewN q) := hwq
        clear hx hy c1 c2 a3 b3 r1 r2 hwq
        by_cases hz : cmpI x y = 0
        · have hz2 : (cmpI x y != 0) = false := by simp [hz]
          obtain ⟨C, hC⟩ : ∃ C, C = cmpI x y := ⟨_, rfl⟩
          have kc : ∀ w', Calls Try.prog 29 #[.int .i64 x, .int .i64 y] w' fun e w'' => e = .returned (.int .i64 C) ∧ w'' = w' := fun w' => by rw [hC]; exact cmp_int64 w' x y
          rw [← hC] at hz hz2
          have HC : Hid (C = cmpI x y) := hC
          have HZ : Hid (C = 0) := hz
          clear hC hz
          go_wp2_with fail
          go_quiet ((go_at_call 29; exact Calls.quiet_of_same (kc _)))
          go_wp2_with fail
          go_roundw
          case rel =>
            refine ⟨i + 1, q + nq, by go_num, by omega, by rw [HWQ.out]; exact World.drewN_drewN _ _ _, fun j hj => ?_⟩
            by_cases hji : j = i
            · subst hji; rw [← HX.out.1, ← HX.out.2, ← HC.out]; exact HZ.out
            · exact HA.out j (by omega)
          case measure => simp [intOf]; omega
        · have hz2 : (cmpI x y != 0) = true := by simp [hz]
          obtain ⟨C, hC⟩ : ∃ C, C = cmpI x y := ⟨_, rfl⟩
          have kc : ∀ w', Calls Try.prog 29 #[.int .i64 x, .int .i64 y] w' fun e w'' => e = .returned (.int .i64 C) ∧ w'' = w' := fun w' => by rw [hC]; exact cmp_int64 w' x y
          rw [← hC] at hz hz2
          have HC : Hid (C = cmpI x y) := hC
          have HZ : Hid (¬ C = 0) := hz
          clear hC hz
          go_wp2_with fail
          go_quiet ((go_at_call 29; exact Calls.quiet_of_same (kc _)))
          go_wp2_with fail
          go_ret
          refine ⟨ret_int ?_, q + nq, by rw [HWQ.out]; exact World.drewN_drewN _ _ _⟩
          have h1 : i < a.length := by have := HN.out; omega
          have h2 : i < b.length := by have := HN.out; omega
          have e1 : x = a[i] := by rw [HX.out.1]; simp [h1]
          have e2 : y = b[i] := by rw [HX.out.2]; simp [h2]
          rw [cmpR_at cmpI_ord a b i h1 h2 (fun j k1 k2 hj => by have := HA.out j hj; simpa [k1, k2] using this) (by rw [← e1, ← e2, ← HC.out]; exact HZ.out), ← e1, ← e2]
          exact HC.out
      · have hltz : ¬ (i : Int) < (n : Int) := by omega
        have hiL : n ≤ i := by omega
        have hfin : cmpR cmpI a b = cmpI n m := by
          rw [HN.out.1, HN.out.2]
          refine cmpR_len cmpI_ord a b fun j h1 h2 => ?_
          have := HA.out j (by have := HN.out; omega)
          simpa [h1, h2] using this
        have HF : Hid _ := hfin
        clear hfin
        go_wp2_with (go_at_call 44; refine (cmp_int _ _ _).mono ?_; rintro e w' ⟨rfl, rfl⟩)
        go_ret
        exact ⟨by rw [HF.out]; rfl, q, rfl⟩

theorem cell_grow {w : World} {a : Addr} {v : Value} (h : w.cell? a = some v) (o : Obj) : (w.alloc o).cell? a = some v := cell_alloc_sl o h

set_option maxHeartbeats 1600000 in
theorem compare_any (w : World) (a b : Fc) (ha : a.Ok w) (hb : b.Ok w) :
    Calls Try.prog 14 #[a.val, b.val] w fun e w' => e = .returned (.int .i64 (cmpF a.ft b.ft)) ∧ Grows w w' := by
  obtain ⟨W, hW⟩ : ∃ W, W = (w.alloc (.cells #[.int .i64 a.t, a.dv, a.mv] 27)).alloc (.cells #[.int .i64 b.t, b.dv, b.mv] 27) := ⟨_, rfl⟩
  have gW : Grows w W := by rw [hW]; exact (Grows.alloc _ _).trans (Grows.alloc _ _)
  have HG : Hid (Grows w W) := gW
  have ka := ha.below gW.below
  have kb := hb.below gW.below
  unfold Fc.val
  have kd := fun w' (h : Grows W w') => rows_string w' a.dv b.dv a.ds b.ds (ka.rd.below h.below) (kb.rd.below h.below)
  have km := fun w' (h : Grows W w') => rows_int64 w' a.mv b.mv a.ms b.ms (ka.rm.below h.below) (kb.rm.below h.below)
  have ft : cmpF a.ft b.ft = if a.t = b.t then (if cmpR cmpS a.ds b.ds = 0 then cmpR cmpI a.ms b.ms else cmpR cmpS a.ds b.ds) else cmpI a.t b.t := rfl
  rw [ft]
  clear ft ka kb gW
  clear ha hb
  have HW : Hid _ := hW
  clear hW
  by_cases ht : a.t = b.t
  · have ht2 : (a.t != b.t) = false := by simp [ht]
    rw [if_pos ht]
    clear ht
    obtain ⟨C, hC⟩ : ∃ C, C = cmpR cmpS a.ds b.ds := ⟨_, rfl⟩
    rw [← hC] at kd ⊢
    clear hC
    obtain ⟨D, hD⟩ : ∃ D, D = cmpR cmpI a.ms b.ms := ⟨_, rfl⟩
    rw [← hD] at km ⊢
    clear hD
    by_cases hz : C = 0
    · have hz2 : (C != 0) = false := by simp [hz]
      rw [if_pos hz]
      clear hz
      go_enter Try.func14, Try.ntmps14
      go_wp2_with fail
      rw [← HW.out]
      refine (kd _ (Grows.refl _)).mono ?_
      rintro e w' ⟨rfl, q, rfl⟩
      rw [HW.out]
      go_wp2_with fail
      rw [← HW.out]
      refine (km _ (Grows.drewN _ _)).mono ?_
      rintro e w' ⟨rfl, q', rfl⟩
      go_wp2_with fail
      go_ret
      exact ⟨rfl, Grows.trans HG.out (Grows.drewN _ _)⟩
    · have hz2 : (C != 0) = true := by simp [hz]
      rw [if_neg hz]
      clear hz
      go_enter Try.func14, Try.ntmps14
      go_wp2_with fail
      rw [← HW.out]
      refine (kd _ (Grows.refl _)).mono ?_
      rintro e w' ⟨rfl, q, rfl⟩
      go_wp2_with fail
      go_ret
      exact ⟨rfl, Grows.trans HG.out (Grows.drewN _ _)⟩
  · have ht2 : (a.t != b.t) = true := by simp [ht]
    rw [if_neg ht]
    clear ht kd km
    go_enter Try.func14, Try.ntmps14
    go_wp2_with (go_at_call 29; refine (cmp_int64 _ _ _).mono ?_; rintro e w' ⟨rfl, rfl⟩)
    go_ret
    exact ⟨rfl, by rw [← HW.out]; exact HG.out⟩
end Go.Proofs.Ytgdeongeonhlpaa
