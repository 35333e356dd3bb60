/- The contract of the reference's part. -/
import Derived.Test.YtlfkhinmncbkcaaRPart
namespace Go.Proofs.Ytlfkhinmncbkcaa
open Go.RowKit Go.Sort

set_option maxHeartbeats 8000000 in
theorem refpart_any (w : World) (D M : Int) (t : Tr) (h : t.Ok w) :
    Calls Try.prog 35 #[.agg #[.int .i64 D, .int .i64 M], .agg #[.int .i64 t.k, .int .i64 t.d, t.tv, .int .i64 t.lo, .int .i64 t.hi, t.kv]] w fun e w' => e = .returned (.bool (t.fit D M)) ∧ Grows w w' := by
  obtain ⟨at', nt, ct, ak, nk, ck, e1, e2, hnk, -, -, -⟩ := h.lens
  obtain ⟨W, hW⟩ : ∃ W, W = (w.alloc (.cells #[.int .i64 D, .int .i64 M] 23)).alloc (.cells #[.int .i64 t.k, .int .i64 t.d, t.tv, .int .i64 t.lo, .int .i64 t.hi, t.kv] 27) := ⟨_, rfl⟩
  have gW : Grows w W := by rw [hW]; exact (Grows.alloc _ _).trans (Grows.alloc _ _)
  have hrt := (h.up gW.below).rt
  rw [e1] at hrt
  obtain ⟨hnt, hc1, hc2, hc3⟩ := hrt.cells
  rw [sv_length] at hnt hc1
  rw [← hnt] at hc1
  unfold maxLen at hc2
  have q2 : W.cell? ⟨w.heap.size + 1, 2, none⟩ = some (.slice at' nt ct) := by
    have hs : w.heap.size + 1 = (w.alloc (.cells #[.int .i64 D, .int .i64 M] 23)).heap.size := by simp
    rw [hW, hs, e1]; simp
  have HH : Aside (∀ i, i < t.ts.length → ∃ b off, at' = some ⟨b, off, none⟩ ∧ W.cell? ⟨b, off + i, none⟩ = some (.string ⟨(t.ts.getD i []).toArray⟩)) := fun i hi => by
    obtain ⟨b, off, e, hc⟩ := hc3 (by rw [sv_length]; omega)
    exact ⟨b, off, e, hc i _ (sv_get t.ts i hi)⟩
  have HNT : Hid (nt = t.ts.length) := hnt
  have HG : Hid (Grows w W) := gW
  have HW : Hid _ := hW
  rw [e1, e2] at HW ⊢
  have hfit : t.fit D M = if t.k = 1 ∨ t.k = 3 ∨ t.k = 4 then true
    else if t.k = 2 then decide (nk = 1)
    else if t.k = 8 then decide (0 ≤ t.d ∧ t.d < M)
    else if t.k = 6 then decide (nt = 2) && (decide (0 ≤ t.d ∧ t.d < D) && !longs t.ts)
    else if t.k = 7 then decide (nt = 1) && (decide (0 ≤ t.d ∧ t.d < D) && !longs t.ts)
    else if t.k = 5 then decide (0 ≤ t.d ∧ t.d < D) && !longs t.ts
    else false := by unfold Tr.fit; rw [hnk, hnt]
  rw [hfit]
  have Q2 : Hid _ := q2
  clear h gW hW hfit e1 e2 hnk hnt hc3 hrt q2
  generalize t.ts = ts at *
  generalize t.k = k at *
  generalize t.d = d at *
  generalize t.lo = lo at *
  generalize t.hi = hi at *
  by_cases h1 : k = 1 ∨ k = 3 ∨ k = 4
  · rw [if_pos h1]
    rcases h1 with rfl | rfl | rfl <;>
      (go_enter Try.func35, Try.ntmps35
       go_wp2_with fail
       rw [← HW.out]
       go_ret
       exact ⟨rfl, HG.out⟩)
  · rw [if_neg h1]
    have c1 : (k == 1) = false := by simp; omega
    have c3 : (k == 3) = false := by simp; omega
    have c4 : (k == 4) = false := by simp; omega
    by_cases h2 : k = 2
    · rw [if_pos h2]
      subst h2
      have hd : ((nk : Int) == 1) = decide (nk = 1) := by
        by_cases hn : nk = 1
        · simp [hn]
        · rw [decide_eq_false hn]; simp; omega
      clear c1 c3 c4 h1
      rw [← hd]
      clear hd
      go_enter Try.func35, Try.ntmps35
      go_wp2_with fail
      rw [← HW.out]
      go_ret
      exact ⟨rfl, HG.out⟩
    · rw [if_neg h2]
      have c2 : (k == 2) = false := by simp; omega
      by_cases h8 : k = 8
      · rw [if_pos h8]
        subst h8
        clear c1 c2 c3 c4 h1 h2
        by_cases hd0 : 0 ≤ d
        · have d0 : decide (0 ≤ d) = true := decide_eq_true hd0
          have hdm : decide (0 ≤ d ∧ d < M) = decide (d < M) := by
            by_cases hm : d < M
            · rw [decide_eq_true hm, decide_eq_true ⟨hd0, hm⟩]
            · rw [decide_eq_false hm, decide_eq_false fun h => hm h.2]
          rw [hdm]
          clear hdm
          go_enter Try.func35, Try.ntmps35
          go_wp2_with fail
          rw [← HW.out]
          go_ret
          exact ⟨rfl, HG.out⟩
        · have d0 : decide (0 ≤ d) = false := decide_eq_false hd0
          rw [decide_eq_false fun h => hd0 h.1]
          go_enter Try.func35, Try.ntmps35
          go_wp2_with fail
          rw [← HW.out]
          go_ret
          exact ⟨rfl, HG.out⟩
      · rw [if_neg h8]
        have c8 : (k == 8) = false := by simp; omega
        by_cases h6 : k = 6
        · rw [if_pos h6]
          subst h6
          clear c1 c2 c3 c4 c8 h1 h2 h8
          by_cases hd0 : d < 0
          · have d0 : decide (d < 0) = true := decide_eq_true hd0
            rw [decide_eq_false (p := 0 ≤ d ∧ d < D) fun h => by omega]
            simp only [Bool.false_and, Bool.and_false]
            go_enter Try.func35, Try.ntmps35
            go_wp2_with fail
            rw [← HW.out]
            go_ret
            exact ⟨rfl, HG.out⟩
          · have d0 : decide (d < 0) = false := decide_eq_false hd0
            by_cases hdD : D ≤ d
            · have d1 : decide (D ≤ d) = true := decide_eq_true hdD
              rw [decide_eq_false (p := 0 ≤ d ∧ d < D) fun h => by omega]
              simp only [Bool.false_and, Bool.and_false]
              go_enter Try.func35, Try.ntmps35
              go_wp2_with fail
              rw [← HW.out]
              go_ret
              exact ⟨rfl, HG.out⟩
            · have d1 : decide (D ≤ d) = false := decide_eq_false hdD
              rw [decide_eq_true (p := 0 ≤ d ∧ d < D) (by omega)]
              by_cases hn : nt = 2
              · have hnb : ((nt : Int) != 2) = false := by simp [hn]
                rw [decide_eq_true hn]
                simp only [Bool.true_and]
                clear hn
                go_enter Try.func35, Try.ntmps35
                go_wp2_with fail
                rw [← HW.out]
                have q2 := Q2.out
                go_loopg [6] nt (fun kx v6 wr => ∃ i : Nat, v6 = .int .i64 i ∧ i ≤ nt ∧ nt - i ≤ kx ∧ Hid (∀ j, j < i → ¬ 64 < (ts.getD j []).length) ∧ Hid (wr = W))
                case atStart => exact ⟨0, rfl, by omega, Nat.le_refl _, fun j hj => by omega, hide rfl⟩
                case round =>
                  obtain ⟨i, rfl, hi', hkx, HJ, HWr⟩ := hrel
                  have hw := HWr.out
                  subst hw
                  by_cases hlt : i < nt
                  · have hltz : (i : Int) < (nt : Int) := by omega
                    have hil : i < ts.length := by have := HNT.out; omega
                    obtain ⟨b, off, rfl, q⟩ := HH.out i hil
                    generalize hs : ts.getD i [] = s at *
                    have HS : Hid (ts.getD i [] = s) := hs
                    have hz : (⟨s.toArray⟩ : ByteArray).size = s.length := str_size s
                    clear hs
                    by_cases hlg : 64 < s.length
                    · have hlz : (64 : Int) < (s.length : Int) := by omega
                      have HLG : Hid (64 < s.length) := hlg
                      clear hlg
                      go_wp2_with fail
                      go_ret
                      refine ⟨?_, HG.out⟩
                      rw [longs_true hil (by rw [HS.out]; exact HLG.out)]
                      rfl
                    · have hlz : ¬ (64 : Int) < (s.length : Int) := by omega
                      have HLG : Hid (¬ 64 < s.length) := hlg
                      clear hlg
                      go_wp2_with fail
                      go_roundg (nt - (i + 1))
                      case measure => omega
                      case rel =>
                        refine ⟨i + 1, by go_num, by omega, Nat.le_refl _, fun j hj => ?_, hide rfl⟩
                        by_cases hji : j = i
                        · subst hji; rw [HS.out]; exact HLG.out
                        · exact HJ.out j (by omega)
                  · have hltz : ¬ (i : Int) < (nt : Int) := by omega
                    go_wp2_with fail
                    go_ret
                    refine ⟨?_, HG.out⟩
                    rw [longs_false fun j hj => HJ.out j (by have := HNT.out; omega)]
                    rfl
              · have hnb : ((nt : Int) != 2) = true := by simp; omega
                rw [decide_eq_false hn]
                simp only [Bool.false_and]
                clear hn
                go_enter Try.func35, Try.ntmps35
                go_wp2_with fail
                rw [← HW.out]
                go_ret
                exact ⟨rfl, HG.out⟩
        · rw [if_neg h6]
          have c6 : (k == 6) = false := by simp; omega
          by_cases h7 : k = 7
          · rw [if_pos h7]
            subst h7
            clear c1 c2 c3 c4 c8 c6 h1 h2 h8 h6
            by_cases hd0 : d < 0
            · have d0 : decide (d < 0) = true := decide_eq_true hd0
              rw [decide_eq_false (p := 0 ≤ d ∧ d < D) fun h => by omega]
              simp only [Bool.false_and, Bool.and_false]
              go_enter Try.func35, Try.ntmps35
              go_wp2_with fail
              rw [← HW.out]
              go_ret
              exact ⟨rfl, HG.out⟩
            · have d0 : decide (d < 0) = false := decide_eq_false hd0
              by_cases hdD : D ≤ d
              · have d1 : decide (D ≤ d) = true := decide_eq_true hdD
                rw [decide_eq_false (p := 0 ≤ d ∧ d < D) fun h => by omega]
                simp only [Bool.false_and, Bool.and_false]
                go_enter Try.func35, Try.ntmps35
                go_wp2_with fail
                rw [← HW.out]
                go_ret
                exact ⟨rfl, HG.out⟩
              · have d1 : decide (D ≤ d) = false := decide_eq_false hdD
                rw [decide_eq_true (p := 0 ≤ d ∧ d < D) (by omega)]
                by_cases hn : nt = 1
                · have hnb : ((nt : Int) != 1) = false := by simp [hn]
                  rw [decide_eq_true hn]
                  simp only [Bool.true_and]
                  clear hn
                  go_enter Try.func35, Try.ntmps35
                  go_wp2_with fail
                  rw [← HW.out]
                  have q2 := Q2.out
                  go_loopg [6] nt (fun kx v6 wr => ∃ i : Nat, v6 = .int .i64 i ∧ i ≤ nt ∧ nt - i ≤ kx ∧ Hid (∀ j, j < i → ¬ 64 < (ts.getD j []).length) ∧ Hid (wr = W))
                  case atStart => exact ⟨0, rfl, by omega, Nat.le_refl _, fun j hj => by omega, hide rfl⟩
                  case round =>
                    obtain ⟨i, rfl, hi', hkx, HJ, HWr⟩ := hrel
                    have hw := HWr.out
                    subst hw
                    by_cases hlt : i < nt
                    · have hltz : (i : Int) < (nt : Int) := by omega
                      have hil : i < ts.length := by have := HNT.out; omega
                      obtain ⟨b, off, rfl, q⟩ := HH.out i hil
                      generalize hs : ts.getD i [] = s at *
                      have HS : Hid (ts.getD i [] = s) := hs
                      have hz : (⟨s.toArray⟩ : ByteArray).size = s.length := str_size s
                      clear hs
                      by_cases hlg : 64 < s.length
                      · have hlz : (64 : Int) < (s.length : Int) := by omega
                        have HLG : Hid (64 < s.length) := hlg
                        clear hlg
                        go_wp2_with fail
                        go_ret
                        refine ⟨?_, HG.out⟩
                        rw [longs_true hil (by rw [HS.out]; exact HLG.out)]
                        rfl
                      · have hlz : ¬ (64 : Int) < (s.length : Int) := by omega
                        have HLG : Hid (¬ 64 < s.length) := hlg
                        clear hlg
                        go_wp2_with fail
                        go_roundg (nt - (i + 1))
                        case measure => omega
                        case rel =>
                          refine ⟨i + 1, by go_num, by omega, Nat.le_refl _, fun j hj => ?_, hide rfl⟩
                          by_cases hji : j = i
                          · subst hji; rw [HS.out]; exact HLG.out
                          · exact HJ.out j (by omega)
                    · have hltz : ¬ (i : Int) < (nt : Int) := by omega
                      go_wp2_with fail
                      go_ret
                      refine ⟨?_, HG.out⟩
                      rw [longs_false fun j hj => HJ.out j (by have := HNT.out; omega)]
                      rfl
                · have hnb : ((nt : Int) != 1) = true := by simp; omega
                  rw [decide_eq_false hn]
                  simp only [Bool.false_and]
                  clear hn
                  go_enter Try.func35, Try.ntmps35
                  go_wp2_with fail
                  rw [← HW.out]
                  go_ret
                  exact ⟨rfl, HG.out⟩
          · rw [if_neg h7]
            have c7 : (k == 7) = false := by simp; omega
            by_cases h5 : k = 5
            · rw [if_pos h5]
              subst h5
              clear c1 c2 c3 c4 c8 c6 c7 h1 h2 h8 h6 h7
              by_cases hd0 : d < 0
              · have d0 : decide (d < 0) = true := decide_eq_true hd0
                rw [decide_eq_false (p := 0 ≤ d ∧ d < D) fun h => by omega]
                simp only [Bool.false_and]
                go_enter Try.func35, Try.ntmps35
                go_wp2_with fail
                rw [← HW.out]
                go_ret
                exact ⟨rfl, HG.out⟩
              · have d0 : decide (d < 0) = false := decide_eq_false hd0
                by_cases hdD : D ≤ d
                · have d1 : decide (D ≤ d) = true := decide_eq_true hdD
                  rw [decide_eq_false (p := 0 ≤ d ∧ d < D) fun h => by omega]
                  simp only [Bool.false_and]
                  go_enter Try.func35, Try.ntmps35
                  go_wp2_with fail
                  rw [← HW.out]
                  go_ret
                  exact ⟨rfl, HG.out⟩
                · have d1 : decide (D ≤ d) = false := decide_eq_false hdD
                  rw [decide_eq_true (p := 0 ≤ d ∧ d < D) (by omega)]
                  have hnb : ((nt : Int) != (nt : Int)) = false := by simp
                  simp only [Bool.true_and]
                  go_enter Try.func35, Try.ntmps35
                  go_wp2_with fail
                  rw [← HW.out]
                  have q2 := Q2.out
                  go_loopg [6] nt (fun kx v6 wr => ∃ i : Nat, v6 = .int .i64 i ∧ i ≤ nt ∧ nt - i ≤ kx ∧ Hid (∀ j, j < i → ¬ 64 < (ts.getD j []).length) ∧ Hid (wr = W))
                  case atStart => exact ⟨0, rfl, by omega, Nat.le_refl _, fun j hj => by omega, hide rfl⟩
                  case round =>
                    obtain ⟨i, rfl, hi', hkx, HJ, HWr⟩ := hrel
                    have hw := HWr.out
                    subst hw
                    by_cases hlt : i < nt
                    · have hltz : (i : Int) < (nt : Int) := by omega
                      have hil : i < ts.length := by have := HNT.out; omega
                      obtain ⟨b, off, rfl, q⟩ := HH.out i hil
                      generalize hs : ts.getD i [] = s at *
                      have HS : Hid (ts.getD i [] = s) := hs
                      have hz : (⟨s.toArray⟩ : ByteArray).size = s.length := str_size s
                      clear hs
                      by_cases hlg : 64 < s.length
                      · have hlz : (64 : Int) < (s.length : Int) := by omega
                        have HLG : Hid (64 < s.length) := hlg
                        clear hlg
                        go_wp2_with fail
                        go_ret
                        refine ⟨?_, HG.out⟩
                        rw [longs_true hil (by rw [HS.out]; exact HLG.out)]
                        rfl
                      · have hlz : ¬ (64 : Int) < (s.length : Int) := by omega
                        have HLG : Hid (¬ 64 < s.length) := hlg
                        clear hlg
                        go_wp2_with fail
                        go_roundg (nt - (i + 1))
                        case measure => omega
                        case rel =>
                          refine ⟨i + 1, by go_num, by omega, Nat.le_refl _, fun j hj => ?_, hide rfl⟩
                          by_cases hji : j = i
                          · subst hji; rw [HS.out]; exact HLG.out
                          · exact HJ.out j (by omega)
                    · have hltz : ¬ (i : Int) < (nt : Int) := by omega
                      go_wp2_with fail
                      go_ret
                      refine ⟨?_, HG.out⟩
                      rw [longs_false fun j hj => HJ.out j (by have := HNT.out; omega)]
                      rfl
            · rw [if_neg h5]
              have c5 : (k == 5) = false := by simp; omega
              clear h1 h2 h8 h6 h7 h5
              go_enter Try.func35, Try.ntmps35
              go_wp2_with fail
              rw [← HW.out]
              go_ret
              exact ⟨rfl, HG.out⟩
end Go.Proofs.Ytlfkhinmncbkcaa
