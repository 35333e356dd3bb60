/- The walk of BitsRefuse: sets of unlike rows, and none, are refused. -/
import Derived.Test.YtcldmjjbiifejaaDoorAwake
namespace Go.Proofs.YtcldmjjbiifejaaDoor
open Go.RowKit

theorem rows_any (w : World) (z : Int) (hz : -9223372036854775808 ≤ z ∧ z ≤ 9223372036854775807) :
    Calls Tryd.prog 8 #[.int .i64 z] w fun e w' => e = .returned (.int .i64 ((ab z % 300 : Nat) : Int)) ∧ w' = w := by
  have hal := ab_le z hz
  have habs := abs_any w z hz
  obtain ⟨a, ha⟩ : ∃ a, a = ab z := ⟨_, rfl⟩
  rw [← ha] at hal habs ⊢
  clear ha
  go_enter Tryd.func8, Tryd.ntmps8
  go_wp2_with fail
  refine habs.mono ?_
  rintro e1 w1 ⟨rfl, rfl⟩
  go_wp2
  go_ret
  simp
theorem alike_left (w : World) (B : Nat) : Calls Tryd.prog 27 #[.pointer none, .pointer (some ⟨B, 0, none⟩)] w fun e w' => e = .returned (.bool false) ∧ ∃ d, w' = w.drewN d := by
  go_enter Tryd.func27, Tryd.ntmps27
  go_wp2_with fail
  go_quiet (fail)
  go_wp2
  go_ret
  exact ⟨by simp, _, rfl⟩
theorem alike_right (w : World) (B : Nat) : Calls Tryd.prog 27 #[.pointer (some ⟨B, 0, none⟩), .pointer none] w fun e w' => e = .returned (.bool false) ∧ ∃ d, w' = w.drewN d := by
  go_enter Tryd.func27, Tryd.ntmps27
  go_wp2_with fail
  go_quiet (fail)
  go_wp2
  go_ret
  exact ⟨by simp, _, rfl⟩
theorem and_refused (w : World) (p q : Option Addr) (h : ∀ w', Below w.heap.size w w' → Calls Tryd.prog 27 #[.pointer p, .pointer q] w' fun e w'' => e = .returned (.bool false) ∧ ∃ d, w'' = w'.drewN d) :
    Calls Tryd.prog 10 #[.pointer p, .pointer q] w fun e w' => e = .returned (.tuple #[.pointer none, .int .i64 1]) ∧ Below w.heap.size w w' := by
  have hb : Below w.heap.size w ((w.alloc (.cells #[.pointer p] 25)).alloc (.cells #[.pointer q] 25)) := ((Below.refl _ _).alloc (Nat.le_refl _) _).alloc (by simp) _
  go_enter Tryd.func10, Tryd.ntmps10
  go_wp2_with fail
  refine (h _ hb).mono ?_
  rintro e1 w2 ⟨rfl, d, rfl⟩
  go_wp2
  go_ret2
  exact ⟨rfl, below_drewN hb d⟩
theorem or_refused (w : World) (p q : Option Addr) (h : ∀ w', Below w.heap.size w w' → Calls Tryd.prog 27 #[.pointer p, .pointer q] w' fun e w'' => e = .returned (.bool false) ∧ ∃ d, w'' = w'.drewN d) :
    Calls Tryd.prog 11 #[.pointer p, .pointer q] w fun e w' => e = .returned (.tuple #[.pointer none, .int .i64 1]) ∧ Below w.heap.size w w' := by
  have hb : Below w.heap.size w ((w.alloc (.cells #[.pointer p] 25)).alloc (.cells #[.pointer q] 25)) := ((Below.refl _ _).alloc (Nat.le_refl _) _).alloc (by simp) _
  go_enter Tryd.func11, Tryd.ntmps11
  go_wp2_with fail
  refine (h _ hb).mono ?_
  rintro e1 w2 ⟨rfl, d, rfl⟩
  go_wp2
  go_ret2
  exact ⟨rfl, below_drewN hb d⟩
theorem new_neg (w : World) (z : Int) (hz : -9223372036854775808 ≤ z ∧ z < 0) :
    Calls Tryd.prog 17 #[.int .i64 z] w fun e w' => e = .returned (.tuple #[.pointer none, .int .i64 1]) ∧ w' = w := by
  have e : (decide (0 ≤ z) && decide (z ≤ 1048576)) = false := by simp; omega
  go_enter Tryd.func17, Tryd.ntmps17
  go_wp2_with fail
  refine (isRows_any w z (by omega)).mono ?_
  rintro e1 w1 ⟨rfl, rfl⟩
  rw [e]
  go_wp2
  go_ret2
  exact ⟨rfl, rfl⟩
theorem isRow_nil (w : World) (z : Int) : Calls Tryd.prog 42 #[.pointer none, .int .i64 z] w fun e w' => e = .returned (.bool false) ∧ w' = w := by
  go_enter Tryd.func42, Tryd.ntmps42
  go_wp2
  go_ret
  simp
theorem put_nil (w : World) (z : Int) : Calls Tryd.prog 19 #[.pointer none, .int .i64 z] w fun e w' => e = .returned (.int .i64 1) ∧ w' = w := by
  go_enter Tryd.func19, Tryd.ntmps19
  go_wp2_with fail
  refine (isRow_nil w z).mono ?_
  rintro e1 w1 ⟨rfl, rfl⟩
  go_wp2
  go_ret
  simp
theorem has_nil (w : World) (z : Int) : Calls Tryd.prog 20 #[.pointer none, .int .i64 z] w fun e w' => e = .returned (.bool false) ∧ Below w.heap.size w w' := by
  go_enter Tryd.func20, Tryd.ntmps20
  go_wp2_with fail
  refine (isRow_nil w z).mono ?_
  rintro e1 w1 ⟨rfl, rfl⟩
  go_wp2
  go_ret
  exact ⟨by simp, Below.refl _ _⟩
theorem not_nil (w : World) : Calls Tryd.prog 12 #[.pointer none] w fun e w' => e = .returned (.pointer none) ∧ Below w.heap.size w w' := by
  go_enter Tryd.func12, Tryd.ntmps12
  go_wp2
  go_ret
  exact ⟨by simp, (Below.refl _ _).alloc (Nat.le_refl _) _⟩
theorem count_nil (w : World) : Calls Tryd.prog 21 #[.pointer none] w fun e w' => e = .returned (.int .i64 0) ∧ w' = w := by
  go_enter Tryd.func21, Tryd.ntmps21
  go_wp2
  go_ret
  simp
theorem rows_nil (w : World) : Calls Tryd.prog 22 #[.pointer none] w fun e w' => e = .returned (.int .i64 0) ∧ w' = w := by
  go_enter Tryd.func22, Tryd.ntmps22
  go_wp2
  go_ret
  simp
theorem list_nil (w : World) : Calls Tryd.prog 23 #[.pointer none] w fun e w' => e = .returned (.slice none 0 0) ∧ w' = w := by
  go_enter Tryd.func23, Tryd.ntmps23
  go_wp2
  go_ret
  simp
theorem bytes_nil (w : World) : Calls Tryd.prog 24 #[.pointer none] w fun e w' => e = .returned (.slice none 0 0) ∧ w' = w := by
  go_enter Tryd.func24, Tryd.ntmps24
  go_wp2
  go_ret
  simp
theorem news_at (w w' : World) (K n : Nat) (hn : n ≤ 1048576) (hb : Below K w w') (hK : K ≤ w'.heap.size) :
    Calls Tryd.prog 17 #[.int .i64 n] w' fun e w'' => ∃ B g, e = .returned (.tuple #[.pointer (some ⟨B, 0, none⟩), .int .i64 0]) ∧ ISet w'' 0 (.pointer (some ⟨B, 0, none⟩)) n 0 B g ∧ Below K w w'' ∧ Below w'.heap.size w' w'' := by
  refine (new_any w' n hn).mono ?_
  rintro e w'' ⟨p, B, g, rfl, h1, h2⟩
  have := h1.ptr
  subst this
  exact ⟨_, _, rfl, h1.mono (Nat.zero_le _), hb.trans (below_mono h2 hK), h2⟩

set_option maxHeartbeats 1600000 in
theorem refuse_walk (w : World) (z m r : Int) (hz : -9223372036854775808 ≤ z ∧ z ≤ 9223372036854775807) (hm : -9223372036854775808 ≤ m ∧ m ≤ 9223372036854775807) (_hr : -9223372036854775808 ≤ r ∧ r ≤ 9223372036854775807) :
    Calls Tryd.prog 5 #[.int .i64 z, .int .i64 m, .int .i64 r] w fun e w' => e = .returned (.bool true) ∧ Below w.heap.size w w' := by
  have hrows := fun w' => rows_any w' z hz
  obtain ⟨n, hn⟩ : ∃ n, n = ab z % 300 := ⟨_, rfl⟩
  simp only [← hn] at hrows
  have hn3 : n ≤ 299 := by omega
  have habs := fun w' => abs_any w' m hm
  have hal := ab_le m hm
  obtain ⟨a, ha⟩ : ∃ a, a = ab m := ⟨_, rfl⟩
  simp only [← ha] at habs
  rw [← ha] at hal
  obtain ⟨a5, ha5⟩ : ∃ a5, a5 = a % 50 := ⟨_, rfl⟩
  have ha5i : (a : Int) % 50 = (a5 : Int) := by omega
  have ha5l : a5 ≤ 49 := by omega
  obtain ⟨n', hn'⟩ : ∃ n', n' = n + 1 + a5 := ⟨_, rfl⟩
  have hn'i : (n : Int) + 1 + (a5 : Int) = (n' : Int) := by omega
  have hnn : ¬ n = n' := by omega
  have hnn' : ¬ n' = n := by omega
  have hn'l : n' ≤ 1000 := by omega
  obtain ⟨q, hq⟩ : ∃ q : Int, q = -1 - (a : Int) := ⟨_, rfl⟩
  have hq' : -1 - (a : Int) = q := hq.symm
  have hqb : -9223372036854775808 ≤ q ∧ q < 0 := by omega
  have HN := hide hnn
  have HN' := hide hnn'
  clear hn ha ha5 hn' hq hnn hnn'
  go_enter Tryd.func5, Tryd.ntmps5
  go_wp2_with fail
  refine (awake_any w).mono ?_
  rintro e1 w1 ⟨rfl, c1⟩
  have s1 := c1.size
  go_wp2_with fail
  refine (hrows w1).mono ?_
  rintro e1 w2 ⟨rfl, rfl⟩
  go_wp2_with fail
  refine (news_at w w2 _ n (by omega) c1 s1).mono ?_
  rintro e1 w3 ⟨Bs, gs, rfl, iS, c3, d3⟩
  have s3 := c3.size
  go_wp2_with fail
  refine (hrows w3).mono ?_
  rintro e1 w4 ⟨rfl, rfl⟩
  go_wp2_with fail
  refine (habs w4).mono ?_
  rintro e1 w5 ⟨rfl, rfl⟩
  go_wp2_with fail
  refine (news_at w w5 _ n' (by omega) c3 s3).mono ?_
  rintro e1 w6 ⟨Bt, gt, rfl, iT, c6, d6⟩
  replace iS := iS.below d6
  have s6 := c6.size
  clear c1 c3 d3 d6 s1 s3 hrows
  go_wp2_with fail
  refine (and_refused w6 _ _ (fun w' hb => by have := alike_any w' _ _ _ _ _ _ _ _ _ _ _ _ (iS.below hb) (iT.below hb); rw [decide_eq_false (unhide HN)] at this; exact this)).mono ?_
  rintro e1 w7 ⟨rfl, d7⟩
  replace iS := iS.below d7
  replace iT := iT.below d7
  have c7 := c6.trans (below_mono d7 s6)
  have s7 := c7.size
  go_wp2_with fail
  refine (or_refused w7 _ _ (fun w' hb => by have := alike_any w' _ _ _ _ _ _ _ _ _ _ _ _ (iT.below hb) (iS.below hb); rw [decide_eq_false (unhide HN')] at this; exact this)).mono ?_
  rintro e1 w8 ⟨rfl, d8⟩
  have c8 := c7.trans (below_mono d8 s7)
  have s8 := c8.size
  clear iS iT
  go_wp2_with fail
  refine (and_refused w8 _ _ (fun w' _ => alike_right w' Bs)).mono ?_
  rintro e1 w9 ⟨rfl, d9⟩
  have c9 := c8.trans (below_mono d9 s8)
  have s9 := c9.size
  go_wp2_with fail
  refine (or_refused w9 _ _ (fun w' _ => alike_left w' Bs)).mono ?_
  rintro e1 wa ⟨rfl, da⟩
  have ca := c9.trans (below_mono da s9)
  have sa := ca.size
  clear c6 c7 c8 c9 s6 s7 s8 s9 d7 d8 d9 da
  go_wp2_with fail
  refine (habs wa).mono ?_
  rintro e1 wb ⟨rfl, rfl⟩
  go_wp2_with fail
  refine (new_neg wb q hqb).mono ?_
  rintro e1 wc ⟨rfl, rfl⟩
  go_wp2_with fail
  refine (put_nil wc r).mono ?_
  rintro e1 wd ⟨rfl, rfl⟩
  go_wp2_with fail
  refine (has_nil wd r).mono ?_
  rintro e1 we ⟨rfl, de⟩
  have ce := ca.trans (below_mono de sa)
  go_wp2_with fail
  refine (not_nil we).mono ?_
  rintro e1 wf ⟨rfl, df⟩
  have cf := ce.trans (below_mono df ce.size)
  go_wp2_with fail
  refine (count_nil wf).mono ?_
  rintro e1 wg ⟨rfl, rfl⟩
  go_wp2_with fail
  refine (rows_nil wg).mono ?_
  rintro e1 wh ⟨rfl, rfl⟩
  go_wp2_with fail
  refine (list_nil wh).mono ?_
  rintro e1 wi ⟨rfl, rfl⟩
  go_wp2_with fail
  refine (bytes_nil wi).mono ?_
  rintro e1 wj ⟨rfl, rfl⟩
  go_wp2
  go_ret
  exact ⟨by simp, cf⟩
end Go.Proofs.YtcldmjjbiifejaaDoor
