/- Contracts of the looks, parts and Check. -/
import Derived.Test.YtiiihjihegilnaaGreatDoorQck
namespace Go.Proofs.YtiiihjihegilnaaGreatDoor
open Go.RowKit Go.Sort

set_option maxHeartbeats 1600000 in
theorem look0_any (w : World) (Bs Bq : Nat) (D M : Int) (q : Qm) (h : QB w Bs Bq D M q) :
    Calls Tryz.prog 29 #[.pointer (some ⟨Bs, 0, none⟩)] w fun e w' => e = .returned (.int .i64 (look D M q 0)) ∧ Below w.heap.size w w' := by
  obtain ⟨c0, c1⟩ := h.s
  have kF := Fx.fine_any w D M
  simp only [look]
  cases hb : Fx.finB D M
  all_goals
    rw [hb] at kF
    simp only [if_true, if_false, Bool.false_eq_true] at kF
    clear h
    go_enter Tryz.func29, Tryz.ntmps29
    go_wp2_with fail
    refine kF.mono ?_
    rintro e w1 ⟨rfl, b1⟩
    clear kF
    go_wp2_with fail
    refine (unless_any w1 _).mono ?_
    rintro e w2 ⟨rfl, rfl⟩
    go_wp2_with fail
    go_ret
    exact ⟨rfl, b1⟩
set_option maxHeartbeats 1600000 in
theorem look2_any (w : World) (Bs Bq : Nat) (D M : Int) (q : Qm) (h : QB w Bs Bq D M q) :
    Calls Tryz.prog 33 #[.pointer (some ⟨Bs, 0, none⟩), .pointer (some ⟨Bq, 0, none⟩)] w fun e w' => e = .returned (.int .i64 (look D M q 2)) ∧ Below w.heap.size w w' := by
  obtain ⟨c0, c1⟩ := h.s
  have d2 : w.cell? ⟨Bq, 2, none⟩ = some (.int .i64 q.t.k) := h.c 2 _ rfl
  have d3 : w.cell? ⟨Bq, 3, none⟩ = some (.int .i64 q.t.d) := h.c 3 _ rfl
  have d4 : w.cell? ⟨Bq, 4, none⟩ = some (q.t.tv) := h.c 4 _ rfl
  have d5 : w.cell? ⟨Bq, 5, none⟩ = some (.int .i64 q.t.lo) := h.c 5 _ rfl
  have d6 : w.cell? ⟨Bq, 6, none⟩ = some (.int .i64 q.t.hi) := h.c 6 _ rfl
  have d7 : w.cell? ⟨Bq, 7, none⟩ = some (q.t.kv) := h.c 7 _ rfl
  have kF := Fi.check_any w D M q.t h.ok.t
  obtain ⟨at', nt, ct, ak, nk, ck, e1, e2, -, -, -, -⟩ := Fi.Tr.Ok.lens h.ok.t
  simp only [look]
  rw [e1] at d4 kF
  rw [e2] at d7 kF
  generalize q.t.k = k at *
  generalize q.t.d = d at *
  generalize q.t.lo = lo at *
  generalize q.t.hi = hi at *
  cases hb : q.t.may D M
  all_goals
    rw [hb] at kF
    unfold Fi.errB at kF
    simp only [if_true, if_false, Bool.false_eq_true] at kF
    clear h e1 e2
    go_enter Tryz.func33, Tryz.ntmps33
    go_wp2_with fail
    refine kF.mono ?_
    rintro e w1 ⟨rfl, b1⟩
    clear kF
    go_wp2_with fail
    refine (unless_any w1 _).mono ?_
    rintro e w2 ⟨rfl, rfl⟩
    go_wp2_with fail
    go_ret
    exact ⟨rfl, Fi.Grows.below b1⟩
set_option maxHeartbeats 1600000 in
theorem look4_any (w : World) (Bs Bq : Nat) (D M : Int) (q : Qm) (h : QB w Bs Bq D M q) (hD : D ≤ 9223372036854775807) :
    Calls Tryz.prog 36 #[.pointer (some ⟨Bs, 0, none⟩), .pointer (some ⟨Bq, 0, none⟩)] w fun e w' => e = .returned (.int .i64 (look D M q 4)) ∧ Below w.heap.size w w' := by
  obtain ⟨c0, c1⟩ := h.s
  have d9 : w.cell? ⟨Bq, 9, none⟩ = some (q.sv) := h.c 9 _ rfl
  have k := wrongSet_any w D M q.sv q.ss h.ok.s hD
  obtain ⟨a5, n5, c5, h5⟩ := h.ok.s.sl
  simp only [look]
  rw [h5] at d9 k
  generalize wset D q.ss = r at *
  clear h h5
  go_enter Tryz.func36, Tryz.ntmps36
  go_wp2_with fail
  refine k.mono ?_
  rintro e w1 ⟨rfl, b1⟩
  clear k
  go_wp2_with fail
  go_ret
  exact ⟨rfl, b1.below⟩
set_option maxHeartbeats 1600000 in
theorem look5_any (w : World) (Bs Bq : Nat) (D M : Int) (q : Qm) (h : QB w Bs Bq D M q) :
    Calls Tryz.prog 38 #[.pointer (some ⟨Bs, 0, none⟩), .pointer (some ⟨Bq, 0, none⟩)] w fun e w' => e = .returned (.int .i64 (look D M q 5)) ∧ Below w.heap.size w w' := by
  obtain ⟨c0, c1⟩ := h.s
  have d9 : w.cell? ⟨Bq, 10, none⟩ = some (q.av) := h.c 10 _ rfl
  have k := wrongAgg_any w D M q.av q.ag h.ok.a
  obtain ⟨a5, n5, c5, h5⟩ : ∃ a n c, q.av = .slice a n c := by obtain ⟨ao, cap, hv, _⟩ := h.ok.a; exact ⟨_, _, _, hv⟩
  simp only [look]
  rw [h5] at d9 k
  generalize wagg D M q.ag = r at *
  clear h h5
  go_enter Tryz.func38, Tryz.ntmps38
  go_wp2_with fail
  refine k.mono ?_
  rintro e w1 ⟨rfl, b1⟩
  clear k
  go_wp2_with fail
  go_ret
  exact ⟨rfl, b1.below⟩
set_option maxHeartbeats 1600000 in
theorem look1_any (w : World) (Bs Bq : Nat) (D M : Int) (q : Qm) (h : QB w Bs Bq D M q) :
    Calls Tryz.prog 32 #[.pointer (some ⟨Bq, 0, none⟩)] w fun e w' => e = .returned (.int .i64 (look D M q 1)) ∧ Below w.heap.size w w' := by
  have d0 : w.cell? ⟨Bq, 0, none⟩ = some (.int .i64 q.F) := h.c 0 _ rfl
  have d1 : w.cell? ⟨Bq, 1, none⟩ = some (.int .i64 q.T) := h.c 1 _ rfl
  simp only [look]
  clear h
  generalize q.F = F at *
  generalize q.T = T at *
  by_cases h0 : 0 ≤ F
  · by_cases h1 : F ≤ T
    · by_cases h2 : T ≤ 1099511627776
      · have e : unl (decide (0 ≤ F ∧ F ≤ T ∧ T ≤ 1099511627776)) = -1 := by rw [decide_eq_true (by omega)]; rfl
        rw [e]
        clear e
        go_enter Tryz.func32, Tryz.ntmps32
        go_wp2_with (go_at_call 30; refine (unless_any _ _).mono ?_; rintro e w1 ⟨rfl, rfl⟩)
        go_ret
        exact ⟨rfl, Below.refl _ _⟩
      · have e : unl (decide (0 ≤ F ∧ F ≤ T ∧ T ≤ 1099511627776)) = 0 := by rw [decide_eq_false (by omega)]; rfl
        rw [e]
        clear e
        go_enter Tryz.func32, Tryz.ntmps32
        go_wp2_with (go_at_call 30; refine (unless_any _ _).mono ?_; rintro e w1 ⟨rfl, rfl⟩)
        go_ret
        exact ⟨rfl, Below.refl _ _⟩
    · have e : unl (decide (0 ≤ F ∧ F ≤ T ∧ T ≤ 1099511627776)) = 0 := by rw [decide_eq_false (by omega)]; rfl
      rw [e]
      clear e
      go_enter Tryz.func32, Tryz.ntmps32
      go_wp2_with (go_at_call 30; refine (unless_any _ _).mono ?_; rintro e w1 ⟨rfl, rfl⟩)
      go_ret
      exact ⟨rfl, Below.refl _ _⟩
  · have e : unl (decide (0 ≤ F ∧ F ≤ T ∧ T ≤ 1099511627776)) = 0 := by rw [decide_eq_false (by omega)]; rfl
    rw [e]
    clear e
    go_enter Tryz.func32, Tryz.ntmps32
    go_wp2_with (go_at_call 30; refine (unless_any _ _).mono ?_; rintro e w1 ⟨rfl, rfl⟩)
    go_ret
    exact ⟨rfl, Below.refl _ _⟩
set_option maxHeartbeats 1600000 in
theorem look3_any (w : World) (Bs Bq : Nat) (D M : Int) (q : Qm) (h : QB w Bs Bq D M q) :
    Calls Tryz.prog 35 #[.pointer (some ⟨Bq, 0, none⟩)] w fun e w' => e = .returned (.int .i64 (look D M q 3)) ∧ Below w.heap.size w w' := by
  have d8 : w.cell? ⟨Bq, 8, none⟩ = some (.int .i64 q.g) := h.c 8 _ rfl
  simp only [look]
  clear h
  generalize q.g = g at *
  by_cases h0 : 0 ≤ g
  · by_cases h1 : g ≤ 1099511627776
    · have e : unl (decide (0 ≤ g ∧ g ≤ 1099511627776)) = -1 := by rw [decide_eq_true (by omega)]; rfl
      rw [e]
      clear e
      go_enter Tryz.func35, Tryz.ntmps35
      go_wp2_with (go_at_call 30; refine (unless_any _ _).mono ?_; rintro e w1 ⟨rfl, rfl⟩)
      go_ret
      exact ⟨rfl, Below.refl _ _⟩
    · have e : unl (decide (0 ≤ g ∧ g ≤ 1099511627776)) = 0 := by rw [decide_eq_false (by omega)]; rfl
      rw [e]
      clear e
      go_enter Tryz.func35, Tryz.ntmps35
      go_wp2_with (go_at_call 30; refine (unless_any _ _).mono ?_; rintro e w1 ⟨rfl, rfl⟩)
      go_ret
      exact ⟨rfl, Below.refl _ _⟩
  · have e : unl (decide (0 ≤ g ∧ g ≤ 1099511627776)) = 0 := by rw [decide_eq_false (by omega)]; rfl
    rw [e]
    clear e
    go_enter Tryz.func35, Tryz.ntmps35
    go_wp2_with (go_at_call 30; refine (unless_any _ _).mono ?_; rintro e w1 ⟨rfl, rfl⟩)
    go_ret
    exact ⟨rfl, Below.refl _ _⟩
set_option maxHeartbeats 1600000 in
theorem look6_any (w : World) (Bs Bq : Nat) (D M : Int) (q : Qm) (h : QB w Bs Bq D M q) :
    Calls Tryz.prog 40 #[.pointer (some ⟨Bq, 0, none⟩)] w fun e w' => e = .returned (.int .i64 (look D M q 6)) ∧ Below w.heap.size w w' := by
  have d11 : w.cell? ⟨Bq, 11, none⟩ = some (.int .i64 q.G) := h.c 11 _ rfl
  simp only [look]
  clear h
  generalize q.G = G at *
  by_cases h0 : 1 ≤ G
  · by_cases h1 : G ≤ 10000
    · have e : unl (decide (1 ≤ G ∧ G ≤ 10000)) = -1 := by rw [decide_eq_true (by omega)]; rfl
      rw [e]
      clear e
      go_enter Tryz.func40, Tryz.ntmps40
      go_wp2_with (go_at_call 30; refine (unless_any _ _).mono ?_; rintro e w1 ⟨rfl, rfl⟩)
      go_ret
      exact ⟨rfl, Below.refl _ _⟩
    · have e : unl (decide (1 ≤ G ∧ G ≤ 10000)) = 0 := by rw [decide_eq_false (by omega)]; rfl
      rw [e]
      clear e
      go_enter Tryz.func40, Tryz.ntmps40
      go_wp2_with (go_at_call 30; refine (unless_any _ _).mono ?_; rintro e w1 ⟨rfl, rfl⟩)
      go_ret
      exact ⟨rfl, Below.refl _ _⟩
  · have e : unl (decide (1 ≤ G ∧ G ≤ 10000)) = 0 := by rw [decide_eq_false (by omega)]; rfl
    rw [e]
    clear e
    go_enter Tryz.func40, Tryz.ntmps40
    go_wp2_with (go_at_call 30; refine (unless_any _ _).mono ?_; rintro e w1 ⟨rfl, rfl⟩)
    go_ret
    exact ⟨rfl, Below.refl _ _⟩
set_option maxHeartbeats 1600000 in
theorem look7_any (w : World) (Bs Bq : Nat) (D M : Int) (q : Qm) (h : QB w Bs Bq D M q) :
    Calls Tryz.prog 41 #[.pointer (some ⟨Bq, 0, none⟩)] w fun e w' => e = .returned (.int .i64 (look D M q 7)) ∧ Below w.heap.size w w' := by
  have d12 : w.cell? ⟨Bq, 12, none⟩ = some (.int .i64 q.R) := h.c 12 _ rfl
  simp only [look]
  clear h
  generalize q.R = R at *
  by_cases h0 : 0 ≤ R
  · by_cases h1 : R ≤ 10000
    · have e : unl (decide (0 ≤ R ∧ R ≤ 10000)) = -1 := by rw [decide_eq_true (by omega)]; rfl
      rw [e]
      clear e
      go_enter Tryz.func41, Tryz.ntmps41
      go_wp2_with (go_at_call 30; refine (unless_any _ _).mono ?_; rintro e w1 ⟨rfl, rfl⟩)
      go_ret
      exact ⟨rfl, Below.refl _ _⟩
    · have e : unl (decide (0 ≤ R ∧ R ≤ 10000)) = 0 := by rw [decide_eq_false (by omega)]; rfl
      rw [e]
      clear e
      go_enter Tryz.func41, Tryz.ntmps41
      go_wp2_with (go_at_call 30; refine (unless_any _ _).mono ?_; rintro e w1 ⟨rfl, rfl⟩)
      go_ret
      exact ⟨rfl, Below.refl _ _⟩
  · have e : unl (decide (0 ≤ R ∧ R ≤ 10000)) = 0 := by rw [decide_eq_false (by omega)]; rfl
    rw [e]
    clear e
    go_enter Tryz.func41, Tryz.ntmps41
    go_wp2_with (go_at_call 30; refine (unless_any _ _).mono ?_; rintro e w1 ⟨rfl, rfl⟩)
    go_ret
    exact ⟨rfl, Below.refl _ _⟩
end Go.Proofs.YtiiihjihegilnaaGreatDoor
