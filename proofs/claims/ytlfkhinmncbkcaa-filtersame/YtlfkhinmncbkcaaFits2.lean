/- The contract of fits. -/
import Derived.Test.YtlfkhinmncbkcaaFits
namespace Go.Proofs.Ytlfkhinmncbkcaa
open Go.RowKit Go.Sort

theorem Rds.len {w : World} {a : Option Addr} {n c : Nat} {xs : List Value} (h : Rds w (.slice a n c) xs) : n = xs.length := by
  obtain ⟨ao, cap, he, _⟩ := h
  cases he; rfl

set_option maxHeartbeats 4000000 in
theorem fits_any (w : World) (D M : Int) (t : Tr) (h : t.Ok w) :
    Calls Try.prog 34 #[.agg #[.int .i64 D, .int .i64 M], .agg #[.int .i64 t.k, .int .i64 t.d, t.tv, .int .i64 t.lo, .int .i64 t.hi, t.kv]] w fun e w' => e = .returned (.bool (t.fit D M)) ∧ Grows w w' := by
  obtain ⟨at', nt, ct, ak, nk, ck, e1, e2, hnk, -, -, -⟩ := h.lens
  obtain ⟨W, hW⟩ : ∃ W, W = (w.alloc (.cells #[.int .i64 D, .int .i64 M] 23)).alloc (.cells #[.int .i64 t.k, .int .i64 t.d, t.tv, .int .i64 t.lo, .int .i64 t.hi, t.kv] 27) := ⟨_, rfl⟩
  have gW : Grows w W := by rw [hW]; exact (Grows.alloc _ _).trans (Grows.alloc _ _)
  have hl := haslong_any W t.tv t.ts (h.up gW.below).rt
  have hnt : nt = t.ts.length := by have := h.rt; rw [e1] at this; have := this.len; rwa [sv_length] at this
  have kM := within_any W t.d M
  have kD := within_any W t.d D
  have HG : Hid (Grows w W) := gW
  have HW : Hid _ := hW
  rw [e1] at hl
  rw [hW, e1, e2] at hl kM kD
  rw [e1, e2] at HW ⊢
  have hfit : t.fit D M = if t.k = 1 ∨ t.k = 3 ∨ t.k = 4 then true
    else if t.k = 2 then decide (nk = 1)
    else if t.k = 8 then decide (0 ≤ t.d ∧ t.d < M)
    else if t.k = 6 then decide (nt = 2) && (decide (0 ≤ t.d ∧ t.d < D) && !longs t.ts)
    else if t.k = 7 then decide (nt = 1) && (decide (0 ≤ t.d ∧ t.d < D) && !longs t.ts)
    else if t.k = 5 then decide (0 ≤ t.d ∧ t.d < D) && !longs t.ts
    else false := by unfold Tr.fit; rw [hnk, hnt]
  rw [hfit]
  clear h gW hW hfit e1 e2 hnk hnt
  generalize longs t.ts = Lg at *
  generalize decide (0 ≤ t.d ∧ t.d < M) = bM at *
  generalize decide (0 ≤ t.d ∧ t.d < D) = bD at *
  generalize t.k = k at *
  generalize t.d = d at *
  generalize t.lo = lo at *
  generalize t.hi = hi at *
  by_cases h1 : k = 1 ∨ k = 3 ∨ k = 4
  · rw [if_pos h1]
    clear hl kM kD
    rcases h1 with rfl | rfl | rfl <;>
      (go_enter Try.func34, Try.ntmps34
       go_wp2_with fail
       rw [← HW.out]
       go_ret
       exact ⟨rfl, HG.out⟩)
  · rw [if_neg h1]
    have c1 : (k == 1) = false := by simp; omega
    have c3 : (k == 3) = false := by simp; omega
    have c4 : (k == 4) = false := by simp; omega
    by_cases h2 : k = 2
    · rw [if_pos h2]
      subst h2
      have hd : ((nk : Int) == 1) = decide (nk = 1) := by
        by_cases hn : nk = 1
        · simp [hn]
        · rw [decide_eq_false hn]; simp; omega
      clear hl kM kD c1 c3 c4 h1
      rw [← hd]
      clear hd
      go_enter Try.func34, Try.ntmps34
      go_wp2_with fail
      rw [← HW.out]
      go_ret
      exact ⟨rfl, HG.out⟩
    · rw [if_neg h2]
      have c2 : (k == 2) = false := by simp; omega
      by_cases h8 : k = 8
      · rw [if_pos h8]
        subst h8
        clear hl kD c1 c2 c3 c4 h1 h2
        go_enter Try.func34, Try.ntmps34
        go_wp2_with fail
        refine kM.mono ?_
        rintro e w5 ⟨rfl, rfl⟩
        rw [← HW.out]
        go_wp2_with fail
        go_ret
        exact ⟨rfl, HG.out⟩
      · rw [if_neg h8]
        have c8 : (k == 8) = false := by simp; omega
        clear kM
        by_cases h6 : k = 6
        · rw [if_pos h6]
          subst h6
          clear c1 c2 c3 c4 c8 h1 h2 h8
          by_cases hn : nt = 2
          · have hnb : ((nt : Int) != 2) = false := by simp [hn]
            rw [decide_eq_true hn]
            clear hn
            go_enter Try.func34, Try.ntmps34
            go_wp2_with fail
            refine kD.mono ?_
            rintro e w5 ⟨rfl, rfl⟩
            cases bD with
            | true =>
              go_wp2_with fail
              refine hl.mono ?_
              rintro e w6 ⟨rfl, rfl⟩
              rw [← HW.out]
              go_wp2_with fail
              go_ret
              exact ⟨rfl, HG.out⟩
            | false =>
              rw [← HW.out]
              go_wp2_with fail
              go_ret
              exact ⟨rfl, HG.out⟩
          · have hnb : ((nt : Int) != 2) = true := by simp; omega
            rw [decide_eq_false hn]
            clear hn
            go_enter Try.func34, Try.ntmps34
            go_wp2_with fail
            rw [← HW.out]
            go_ret
            exact ⟨rfl, HG.out⟩
        · rw [if_neg h6]
          have c6 : (k == 6) = false := by simp; omega
          by_cases h7 : k = 7
          · rw [if_pos h7]
            subst h7
            clear c1 c2 c3 c4 c8 c6 h1 h2 h8 h6
            by_cases hn : nt = 1
            · have hnb : ((nt : Int) != 1) = false := by simp [hn]
              rw [decide_eq_true hn]
              clear hn
              go_enter Try.func34, Try.ntmps34
              go_wp2_with fail
              refine kD.mono ?_
              rintro e w5 ⟨rfl, rfl⟩
              cases bD with
              | true =>
                go_wp2_with fail
                refine hl.mono ?_
                rintro e w6 ⟨rfl, rfl⟩
                rw [← HW.out]
                go_wp2_with fail
                go_ret
                exact ⟨rfl, HG.out⟩
              | false =>
                rw [← HW.out]
                go_wp2_with fail
                go_ret
                exact ⟨rfl, HG.out⟩
            · have hnb : ((nt : Int) != 1) = true := by simp; omega
              rw [decide_eq_false hn]
              clear hn
              go_enter Try.func34, Try.ntmps34
              go_wp2_with fail
              rw [← HW.out]
              go_ret
              exact ⟨rfl, HG.out⟩
          · rw [if_neg h7]
            have c7 : (k == 7) = false := by simp; omega
            by_cases h5 : k = 5
            · rw [if_pos h5]
              subst h5
              clear c1 c2 c3 c4 c8 c6 c7 h1 h2 h8 h6 h7
              go_enter Try.func34, Try.ntmps34
              go_wp2_with fail
              refine kD.mono ?_
              rintro e w5 ⟨rfl, rfl⟩
              cases bD with
              | true =>
                go_wp2_with fail
                refine hl.mono ?_
                rintro e w6 ⟨rfl, rfl⟩
                rw [← HW.out]
                go_wp2_with fail
                go_ret
                exact ⟨rfl, HG.out⟩
              | false =>
                rw [← HW.out]
                go_wp2_with fail
                go_ret
                exact ⟨rfl, HG.out⟩
            · rw [if_neg h5]
              have c5 : (k == 5) = false := by simp; omega
              clear hl kD h1 h2 h8 h6 h7 h5
              go_enter Try.func34, Try.ntmps34
              go_wp2_with fail
              rw [← HW.out]
              go_ret
              exact ⟨rfl, HG.out⟩
end Go.Proofs.Ytlfkhinmncbkcaa
