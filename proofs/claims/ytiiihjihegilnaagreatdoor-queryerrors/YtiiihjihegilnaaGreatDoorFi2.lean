/- What the texts of filter hold, over this program's numbers. -/
import Derived.Test.YtiiihjihegilnaaGreatDoorFi1
namespace Go.Proofs.YtiiihjihegilnaaGreatDoor.Fi
open Go.RowKit Go.Sort Go.ChangeShapes Go.WideShapes

def Tr.rkidv (t : Tr) : Value := if t.k = 3 ∨ t.k = 4 then t.kv else if t.k = 2 ∧ 0 < t.ks.length then cut1 t.kv else .slice none 0 0
theorem Tr.Ok.rkids {w : World} {t : Tr} (h : t.Ok w) : RdsT w t.rkidv t.kids := by
  have hk := h.kids
  unfold Tr.kidv Tr.kids at hk
  unfold Tr.rkidv Tr.kids
  by_cases h3 : t.k = 3 ∨ t.k = 4
  · rw [if_pos h3, if_neg (by omega), if_pos h3]
    rw [if_neg (by omega), if_pos h3, if_neg (by omega), if_pos h3] at hk
    exact hk
  · rw [if_neg h3, if_neg h3]
    by_cases h2 : t.k = 2
    · rw [if_pos h2, if_pos h2] at hk
      rw [if_pos h2]
      by_cases hl : 0 < t.ks.length
      · rw [if_pos ⟨h2, hl⟩]; exact hk
      · rw [if_neg fun h => hl h.2]
        have : t.ks = [] := List.eq_nil_of_length_eq_zero (by omega)
        rw [this]
        exact RdsT.nil w
    · rw [if_neg h2, if_neg fun h => h2 h.1]
      exact RdsT.nil w

set_option maxHeartbeats 4000000 in
theorem refkids_any (w : World) (t : Tr) (h : t.Ok w) :
    Calls Tryz.prog 57 #[.agg #[.int .i64 t.k, .int .i64 t.d, t.tv, .int .i64 t.lo, .int .i64 t.hi, t.kv]] w fun e w' => e = .returned t.rkidv ∧ Grows w w' := by
  obtain ⟨at', nt, ct, ak, nk, ck, e1, e2, h1, h2, h3, h4⟩ := h.lens
  have hv : t.rkidv = if t.k = 3 ∨ t.k = 4 then .slice ak nk ck else if t.k = 2 ∧ 0 < nk then cut1 (.slice ak nk ck) else .slice none 0 0 := by unfold Tr.rkidv; rw [e2, h1]
  rw [hv, e1, e2]
  unfold maxLen at h3
  have H4 : Hid (ak = none → nk = 0 ∧ ck = 0) := h4
  clear hv e1 e2 h h1 h4
  generalize t.k = k
  generalize t.d = d
  generalize t.lo = lo
  generalize t.hi = hi
  by_cases hk3 : k = 3
  · subst hk3
    rw [if_pos (.inl rfl)]
    go_enter Tryz.func57, Tryz.ntmps57
    go_wp2_with fail
    go_ret
    exact ⟨rfl, Grows.alloc _ _⟩
  · have hb3 : (k == 3) = false := by simp [hk3]
    by_cases hk4 : k = 4
    · subst hk4
      rw [if_pos (.inr rfl)]
      clear hk3 hb3
      go_enter Tryz.func57, Tryz.ntmps57
      go_wp2_with fail
      go_ret
      exact ⟨rfl, Grows.alloc _ _⟩
    · have hb4 : (k == 4) = false := by simp [hk4]
      rw [if_neg fun h => h.elim hk3 hk4]
      by_cases hk2 : k = 2
      · subst hk2
        clear hk3 hk4 hb3 hb4
        by_cases hn : 0 < nk
        · have hnz : decide ((0 : Int) < (nk : Int)) = true := decide_eq_true (by omega)
          have hmn : min 1 nk = 1 := by omega
          have hv2 : cut1 (.slice ak nk ck) = .slice ak 1 ck := by show Value.slice ak (min 1 nk) ck = _; rw [hmn]
          rw [if_pos ⟨rfl, hn⟩, hv2]
          have hcz : (1 : Int) ≤ (ck : Int) := by omega
          cases ak with
          | none => exact absurd (H4.out rfl).1 (by omega)
          | some ad =>
            clear hmn hv2
            go_enter Tryz.func57, Tryz.ntmps57
            go_wp2_with fail
            go_ret
            exact ⟨rfl, Grows.alloc _ _⟩
        · have hnz : decide ((0 : Int) < (nk : Int)) = false := decide_eq_false (by omega)
          rw [if_neg fun h => hn h.2]
          go_enter Tryz.func57, Tryz.ntmps57
          go_wp2_with fail
          go_ret
          exact ⟨rfl, Grows.alloc _ _⟩
      · have hb2 : (k == 2) = false := by simp [hk2]
        rw [if_neg fun h => hk2 h.1]
        clear hk2 hk3 hk4
        go_enter Tryz.func57, Tryz.ntmps57
        go_wp2_with fail
        go_ret
        exact ⟨rfl, Grows.alloc _ _⟩
set_option maxHeartbeats 8000000 in
theorem refpart_any (w : World) (D M : Int) (t : Tr) (h : t.Ok w) :
    Calls Tryz.prog 56 #[.agg #[.int .i64 D, .int .i64 M], .agg #[.int .i64 t.k, .int .i64 t.d, t.tv, .int .i64 t.lo, .int .i64 t.hi, t.kv]] w fun e w' => e = .returned (.bool (t.fit D M)) ∧ Grows w w' := by
  obtain ⟨at', nt, ct, ak, nk, ck, e1, e2, hnk, -, -, -⟩ := h.lens
  obtain ⟨W, hW⟩ : ∃ W, W = (w.alloc (.cells #[.int .i64 D, .int .i64 M] 23)).alloc (.cells #[.int .i64 t.k, .int .i64 t.d, t.tv, .int .i64 t.lo, .int .i64 t.hi, t.kv] 29) := ⟨_, rfl⟩
  have gW : Grows w W := by rw [hW]; exact (Grows.alloc _ _).trans (Grows.alloc _ _)
  have hrt := (h.up gW.below).rt
  rw [e1] at hrt
  obtain ⟨hnt, hc1, hc2, hc3⟩ := hrt.cells
  rw [sv_length] at hnt hc1
  rw [← hnt] at hc1
  unfold maxLen at hc2
  have q2 : W.cell? ⟨w.heap.size + 1, 2, none⟩ = some (.slice at' nt ct) := by
    have hs : w.heap.size + 1 = (w.alloc (.cells #[.int .i64 D, .int .i64 M] 23)).heap.size := by simp
    rw [hW, hs, e1]; simp
  have HH : Aside (∀ i, i < t.ts.length → ∃ b off, at' = some ⟨b, off, none⟩ ∧ W.cell? ⟨b, off + i, none⟩ = some (.string ⟨(t.ts.getD i []).toArray⟩)) := fun i hi => by
    obtain ⟨b, off, e, hc⟩ := hc3 (by rw [sv_length]; omega)
    exact ⟨b, off, e, hc i _ (sv_get t.ts i hi)⟩
  have HNT : Hid (nt = t.ts.length) := hnt
  have HG : Hid (Grows w W) := gW
  have HW : Hid _ := hW
  rw [e1, e2] at HW ⊢
  have hfit : t.fit D M = if t.k = 1 ∨ t.k = 3 ∨ t.k = 4 then true
    else if t.k = 2 then decide (nk = 1)
    else if t.k = 8 then decide (0 ≤ t.d ∧ t.d < M)
    else if t.k = 6 then decide (nt = 2) && (decide (0 ≤ t.d ∧ t.d < D) && !longs t.ts)
    else if t.k = 7 then decide (nt = 1) && (decide (0 ≤ t.d ∧ t.d < D) && !longs t.ts)
    else if t.k = 5 then decide (0 ≤ t.d ∧ t.d < D) && !longs t.ts
    else false := by unfold Tr.fit; rw [hnk, hnt]
  rw [hfit]
  have Q2 : Hid _ := q2
  clear h gW hW hfit e1 e2 hnk hnt hc3 hrt q2
  generalize t.ts = ts at *
  generalize t.k = k at *
  generalize t.d = d at *
  generalize t.lo = lo at *
  generalize t.hi = hi at *
  by_cases h1 : k = 1 ∨ k = 3 ∨ k = 4
  · rw [if_pos h1]
    rcases h1 with rfl | rfl | rfl <;>
      (go_enter Tryz.func56, Tryz.ntmps56
       go_wp2_with fail
       rw [← HW.out]
       go_ret
       exact ⟨rfl, HG.out⟩)
  · rw [if_neg h1]
    have c1 : (k == 1) = false := by simp; omega
    have c3 : (k == 3) = false := by simp; omega
    have c4 : (k == 4) = false := by simp; omega
    by_cases h2 : k = 2
    · rw [if_pos h2]
      subst h2
      have hd : ((nk : Int) == 1) = decide (nk = 1) := by
        by_cases hn : nk = 1
        · simp [hn]
        · rw [decide_eq_false hn]; simp; omega
      clear c1 c3 c4 h1
      rw [← hd]
      clear hd
      go_enter Tryz.func56, Tryz.ntmps56
      go_wp2_with fail
      rw [← HW.out]
      go_ret
      exact ⟨rfl, HG.out⟩
    · rw [if_neg h2]
      have c2 : (k == 2) = false := by simp; omega
      by_cases h8 : k = 8
      · rw [if_pos h8]
        subst h8
        clear c1 c2 c3 c4 h1 h2
        by_cases hd0 : 0 ≤ d
        · have d0 : decide (0 ≤ d) = true := decide_eq_true hd0
          have hdm : decide (0 ≤ d ∧ d < M) = decide (d < M) := by
            by_cases hm : d < M
            · rw [decide_eq_true hm, decide_eq_true ⟨hd0, hm⟩]
            · rw [decide_eq_false hm, decide_eq_false fun h => hm h.2]
          rw [hdm]
          clear hdm
          go_enter Tryz.func56, Tryz.ntmps56
          go_wp2_with fail
          rw [← HW.out]
          go_ret
          exact ⟨rfl, HG.out⟩
        · have d0 : decide (0 ≤ d) = false := decide_eq_false hd0
          rw [decide_eq_false fun h => hd0 h.1]
          go_enter Tryz.func56, Tryz.ntmps56
          go_wp2_with fail
          rw [← HW.out]
          go_ret
          exact ⟨rfl, HG.out⟩
      · rw [if_neg h8]
        have c8 : (k == 8) = false := by simp; omega
        by_cases h6 : k = 6
        · rw [if_pos h6]
          subst h6
          clear c1 c2 c3 c4 c8 h1 h2 h8
          by_cases hd0 : d < 0
          · have d0 : decide (d < 0) = true := decide_eq_true hd0
            rw [decide_eq_false (p := 0 ≤ d ∧ d < D) fun h => by omega]
            simp only [Bool.false_and, Bool.and_false]
            go_enter Tryz.func56, Tryz.ntmps56
            go_wp2_with fail
            rw [← HW.out]
            go_ret
            exact ⟨rfl, HG.out⟩
          · have d0 : decide (d < 0) = false := decide_eq_false hd0
            by_cases hdD : D ≤ d
            · have d1 : decide (D ≤ d) = true := decide_eq_true hdD
              rw [decide_eq_false (p := 0 ≤ d ∧ d < D) fun h => by omega]
              simp only [Bool.false_and, Bool.and_false]
              go_enter Tryz.func56, Tryz.ntmps56
              go_wp2_with fail
              rw [← HW.out]
              go_ret
              exact ⟨rfl, HG.out⟩
            · have d1 : decide (D ≤ d) = false := decide_eq_false hdD
              rw [decide_eq_true (p := 0 ≤ d ∧ d < D) (by omega)]
              by_cases hn : nt = 2
              · have hnb : ((nt : Int) != 2) = false := by simp [hn]
                rw [decide_eq_true hn]
                simp only [Bool.true_and]
                clear hn
                go_enter Tryz.func56, Tryz.ntmps56
                go_wp2_with fail
                rw [← HW.out]
                have q2 := Q2.out
                go_loopg [6] nt (fun kx v6 wr => ∃ i : Nat, v6 = .int .i64 i ∧ i ≤ nt ∧ nt - i ≤ kx ∧ Hid (∀ j, j < i → ¬ 64 < (ts.getD j []).length) ∧ Hid (wr = W))
                case atStart => exact ⟨0, rfl, by omega, Nat.le_refl _, fun j hj => by omega, hide rfl⟩
                case round =>
                  obtain ⟨i, rfl, hi', hkx, HJ, HWr⟩ := hrel
                  have hw := HWr.out
                  subst hw
                  by_cases hlt : i < nt
                  · have hltz : (i : Int) < (nt : Int) := by omega
                    have hil : i < ts.length := by have := HNT.out; omega
                    obtain ⟨b, off, rfl, q⟩ := HH.out i hil
                    generalize hs : ts.getD i [] = s at *
                    have HS : Hid (ts.getD i [] = s) := hs
                    have hz : (⟨s.toArray⟩ : ByteArray).size = s.length := str_size s
                    clear hs
                    by_cases hlg : 64 < s.length
                    · have hlz : (64 : Int) < (s.length : Int) := by omega
                      have HLG : Hid (64 < s.length) := hlg
                      clear hlg
                      go_wp2_with fail
                      go_ret
                      refine ⟨?_, HG.out⟩
                      rw [longs_true hil (by rw [HS.out]; exact HLG.out)]
                      rfl
                    · have hlz : ¬ (64 : Int) < (s.length : Int) := by omega
                      have HLG : Hid (¬ 64 < s.length) := hlg
                      clear hlg
                      go_wp2_with fail
                      go_roundg (nt - (i + 1))
                      case measure => omega
                      case rel =>
                        refine ⟨i + 1, by go_num, by omega, Nat.le_refl _, fun j hj => ?_, hide rfl⟩
                        by_cases hji : j = i
                        · subst hji; rw [HS.out]; exact HLG.out
                        · exact HJ.out j (by omega)
                  · have hltz : ¬ (i : Int) < (nt : Int) := by omega
                    go_wp2_with fail
                    go_ret
                    refine ⟨?_, HG.out⟩
                    rw [longs_false fun j hj => HJ.out j (by have := HNT.out; omega)]
                    rfl
              · have hnb : ((nt : Int) != 2) = true := by simp; omega
                rw [decide_eq_false hn]
                simp only [Bool.false_and]
                clear hn
                go_enter Tryz.func56, Tryz.ntmps56
                go_wp2_with fail
                rw [← HW.out]
                go_ret
                exact ⟨rfl, HG.out⟩
        · rw [if_neg h6]
          have c6 : (k == 6) = false := by simp; omega
          by_cases h7 : k = 7
          · rw [if_pos h7]
            subst h7
            clear c1 c2 c3 c4 c8 c6 h1 h2 h8 h6
            by_cases hd0 : d < 0
            · have d0 : decide (d < 0) = true := decide_eq_true hd0
              rw [decide_eq_false (p := 0 ≤ d ∧ d < D) fun h => by omega]
              simp only [Bool.false_and, Bool.and_false]
              go_enter Tryz.func56, Tryz.ntmps56
              go_wp2_with fail
              rw [← HW.out]
              go_ret
              exact ⟨rfl, HG.out⟩
            · have d0 : decide (d < 0) = false := decide_eq_false hd0
              by_cases hdD : D ≤ d
              · have d1 : decide (D ≤ d) = true := decide_eq_true hdD
                rw [decide_eq_false (p := 0 ≤ d ∧ d < D) fun h => by omega]
                simp only [Bool.false_and, Bool.and_false]
                go_enter Tryz.func56, Tryz.ntmps56
                go_wp2_with fail
                rw [← HW.out]
                go_ret
                exact ⟨rfl, HG.out⟩
              · have d1 : decide (D ≤ d) = false := decide_eq_false hdD
                rw [decide_eq_true (p := 0 ≤ d ∧ d < D) (by omega)]
                by_cases hn : nt = 1
                · have hnb : ((nt : Int) != 1) = false := by simp [hn]
                  rw [decide_eq_true hn]
                  simp only [Bool.true_and]
                  clear hn
                  go_enter Tryz.func56, Tryz.ntmps56
                  go_wp2_with fail
                  rw [← HW.out]
                  have q2 := Q2.out
                  go_loopg [6] nt (fun kx v6 wr => ∃ i : Nat, v6 = .int .i64 i ∧ i ≤ nt ∧ nt - i ≤ kx ∧ Hid (∀ j, j < i → ¬ 64 < (ts.getD j []).length) ∧ Hid (wr = W))
                  case atStart => exact ⟨0, rfl, by omega, Nat.le_refl _, fun j hj => by omega, hide rfl⟩
                  case round =>
                    obtain ⟨i, rfl, hi', hkx, HJ, HWr⟩ := hrel
                    have hw := HWr.out
                    subst hw
                    by_cases hlt : i < nt
                    · have hltz : (i : Int) < (nt : Int) := by omega
                      have hil : i < ts.length := by have := HNT.out; omega
                      obtain ⟨b, off, rfl, q⟩ := HH.out i hil
                      generalize hs : ts.getD i [] = s at *
                      have HS : Hid (ts.getD i [] = s) := hs
                      have hz : (⟨s.toArray⟩ : ByteArray).size = s.length := str_size s
                      clear hs
                      by_cases hlg : 64 < s.length
                      · have hlz : (64 : Int) < (s.length : Int) := by omega
                        have HLG : Hid (64 < s.length) := hlg
                        clear hlg
                        go_wp2_with fail
                        go_ret
                        refine ⟨?_, HG.out⟩
                        rw [longs_true hil (by rw [HS.out]; exact HLG.out)]
                        rfl
                      · have hlz : ¬ (64 : Int) < (s.length : Int) := by omega
                        have HLG : Hid (¬ 64 < s.length) := hlg
                        clear hlg
                        go_wp2_with fail
                        go_roundg (nt - (i + 1))
                        case measure => omega
                        case rel =>
                          refine ⟨i + 1, by go_num, by omega, Nat.le_refl _, fun j hj => ?_, hide rfl⟩
                          by_cases hji : j = i
                          · subst hji; rw [HS.out]; exact HLG.out
                          · exact HJ.out j (by omega)
                    · have hltz : ¬ (i : Int) < (nt : Int) := by omega
                      go_wp2_with fail
                      go_ret
                      refine ⟨?_, HG.out⟩
                      rw [longs_false fun j hj => HJ.out j (by have := HNT.out; omega)]
                      rfl
                · have hnb : ((nt : Int) != 1) = true := by simp; omega
                  rw [decide_eq_false hn]
                  simp only [Bool.false_and]
                  clear hn
                  go_enter Tryz.func56, Tryz.ntmps56
                  go_wp2_with fail
                  rw [← HW.out]
                  go_ret
                  exact ⟨rfl, HG.out⟩
          · rw [if_neg h7]
            have c7 : (k == 7) = false := by simp; omega
            by_cases h5 : k = 5
            · rw [if_pos h5]
              subst h5
              clear c1 c2 c3 c4 c8 c6 c7 h1 h2 h8 h6 h7
              by_cases hd0 : d < 0
              · have d0 : decide (d < 0) = true := decide_eq_true hd0
                rw [decide_eq_false (p := 0 ≤ d ∧ d < D) fun h => by omega]
                simp only [Bool.false_and]
                go_enter Tryz.func56, Tryz.ntmps56
                go_wp2_with fail
                rw [← HW.out]
                go_ret
                exact ⟨rfl, HG.out⟩
              · have d0 : decide (d < 0) = false := decide_eq_false hd0
                by_cases hdD : D ≤ d
                · have d1 : decide (D ≤ d) = true := decide_eq_true hdD
                  rw [decide_eq_false (p := 0 ≤ d ∧ d < D) fun h => by omega]
                  simp only [Bool.false_and]
                  go_enter Tryz.func56, Tryz.ntmps56
                  go_wp2_with fail
                  rw [← HW.out]
                  go_ret
                  exact ⟨rfl, HG.out⟩
                · have d1 : decide (D ≤ d) = false := decide_eq_false hdD
                  rw [decide_eq_true (p := 0 ≤ d ∧ d < D) (by omega)]
                  have hnb : ((nt : Int) != (nt : Int)) = false := by simp
                  simp only [Bool.true_and]
                  go_enter Tryz.func56, Tryz.ntmps56
                  go_wp2_with fail
                  rw [← HW.out]
                  have q2 := Q2.out
                  go_loopg [6] nt (fun kx v6 wr => ∃ i : Nat, v6 = .int .i64 i ∧ i ≤ nt ∧ nt - i ≤ kx ∧ Hid (∀ j, j < i → ¬ 64 < (ts.getD j []).length) ∧ Hid (wr = W))
                  case atStart => exact ⟨0, rfl, by omega, Nat.le_refl _, fun j hj => by omega, hide rfl⟩
                  case round =>
                    obtain ⟨i, rfl, hi', hkx, HJ, HWr⟩ := hrel
                    have hw := HWr.out
                    subst hw
                    by_cases hlt : i < nt
                    · have hltz : (i : Int) < (nt : Int) := by omega
                      have hil : i < ts.length := by have := HNT.out; omega
                      obtain ⟨b, off, rfl, q⟩ := HH.out i hil
                      generalize hs : ts.getD i [] = s at *
                      have HS : Hid (ts.getD i [] = s) := hs
                      have hz : (⟨s.toArray⟩ : ByteArray).size = s.length := str_size s
                      clear hs
                      by_cases hlg : 64 < s.length
                      · have hlz : (64 : Int) < (s.length : Int) := by omega
                        have HLG : Hid (64 < s.length) := hlg
                        clear hlg
                        go_wp2_with fail
                        go_ret
                        refine ⟨?_, HG.out⟩
                        rw [longs_true hil (by rw [HS.out]; exact HLG.out)]
                        rfl
                      · have hlz : ¬ (64 : Int) < (s.length : Int) := by omega
                        have HLG : Hid (¬ 64 < s.length) := hlg
                        clear hlg
                        go_wp2_with fail
                        go_roundg (nt - (i + 1))
                        case measure => omega
                        case rel =>
                          refine ⟨i + 1, by go_num, by omega, Nat.le_refl _, fun j hj => ?_, hide rfl⟩
                          by_cases hji : j = i
                          · subst hji; rw [HS.out]; exact HLG.out
                          · exact HJ.out j (by omega)
                    · have hltz : ¬ (i : Int) < (nt : Int) := by omega
                      go_wp2_with fail
                      go_ret
                      refine ⟨?_, HG.out⟩
                      rw [longs_false fun j hj => HJ.out j (by have := HNT.out; omega)]
                      rfl
            · rw [if_neg h5]
              have c5 : (k == 5) = false := by simp; omega
              clear h1 h2 h8 h6 h7 h5
              go_enter Tryz.func56, Tryz.ntmps56
              go_wp2_with fail
              rw [← HW.out]
              go_ret
              exact ⟨rfl, HG.out⟩
def gd (ask : Bool) (D M : Int) (dep : Nat) (t : Tr) : Bool := !ask || (t.fitA D M && decide (dep + t.dp ≤ 21))
def gdL (ask : Bool) (D M : Int) (dep : Nat) (l : List Tr) : Bool := !ask || (fitL D M l && decide (l = [] ∨ dep + dpL l ≤ 21))
def wk (ask : Bool) (D M : Int) (dep left : Nat) (t : Tr) : Int := if gd ask D M dep t = true ∧ t.sz ≤ left then ((left - t.sz : Nat) : Int) else -1
def wkL (ask : Bool) (D M : Int) (dep left : Nat) (l : List Tr) : Int := if gdL ask D M dep l = true ∧ szL l ≤ left then ((left - szL l : Nat) : Int) else -1
theorem fitL_app (D M : Int) (l m : List Tr) : fitL D M (l ++ m) = (fitL D M l && fitL D M m) := by simp [fitL]
theorem szL_app (l m : List Tr) : szL (l ++ m) = szL l + szL m := by simp [szL]
theorem gdL_app (ask : Bool) (D M : Int) (dep : Nat) (l m : List Tr) : gdL ask D M dep (l ++ m) = (gdL ask D M dep l && gdL ask D M dep m) := by
  cases ask with
  | false => rfl
  | true =>
    have h : decide (l ++ m = [] ∨ dep + dpL (l ++ m) ≤ 21) = (decide (l = [] ∨ dep + dpL l ≤ 21) && decide (m = [] ∨ dep + dpL m ≤ 21)) := by
      rw [← Bool.decide_and]
      apply decide_eq_decide.2
      rw [dpL_append, List.append_eq_nil_iff]
      have z : dpL ([] : List Tr) = 0 := rfl
      constructor
      · rintro (⟨rfl, rfl⟩ | h)
        · exact ⟨.inl rfl, .inl rfl⟩
        · exact ⟨.inr (by omega), .inr (by omega)⟩
      · rintro ⟨h1, h2⟩
        rcases h1 with rfl | h1
        · rcases h2 with rfl | h2
          · exact .inl ⟨rfl, rfl⟩
          · exact .inr (by rw [z]; omega)
        · rcases h2 with rfl | h2
          · exact .inr (by rw [z]; omega)
          · exact .inr (by omega)
    show (fitL D M (l ++ m) && decide (l ++ m = [] ∨ dep + dpL (l ++ m) ≤ 21)) = ((fitL D M l && decide (l = [] ∨ dep + dpL l ≤ 21)) && (fitL D M m && decide (m = [] ∨ dep + dpL m ≤ 21)))
    rw [h, fitL_app]
    generalize decide (l = [] ∨ dep + dpL l ≤ 21) = b1
    generalize decide (m = [] ∨ dep + dpL m ≤ 21) = b2
    cases fitL D M l <;> cases fitL D M m <;> cases b1 <;> cases b2 <;> rfl
theorem gdL_one (ask : Bool) (D M : Int) (dep : Nat) (t : Tr) : gdL ask D M dep [t] = gd ask D M dep t := by
  unfold gdL gd
  rw [fitL_one, dpL_one]
  congr 2
  apply decide_eq_decide.2
  simp
theorem wkL_nil (ask : Bool) (D M : Int) (dep left : Nat) : wkL ask D M dep left [] = left := by
  unfold wkL gdL
  rw [if_pos ⟨by cases ask <;> simp [fitL], by simp [szL]⟩]
  simp [szL]
theorem wkL_step {ask : Bool} {D M : Int} {dep left c : Nat} {l : List Tr} {x : Tr} (h : wkL ask D M dep left l = c) : wkL ask D M dep left (l ++ [x]) = wk ask D M dep c x := by
  unfold wkL at h
  split at h
  case isTrue hg =>
    obtain ⟨h1, h2⟩ := hg
    have hc : c = left - szL l := by omega
    unfold wkL wk
    rw [gdL_app, gdL_one, szL_app, szL_one, h1, Bool.true_and]
    by_cases hx : gd ask D M dep x = true ∧ x.sz ≤ c
    · rw [if_pos hx, if_pos ⟨hx.1, by omega⟩]; omega
    · rw [if_neg hx, if_neg fun h => hx ⟨h.1, by omega⟩]
  case isFalse => omega
theorem wkL_bad {ask : Bool} {D M : Int} {dep left : Nat} {l : List Tr} (m : List Tr) (h : wkL ask D M dep left l < 0) : wkL ask D M dep left (l ++ m) = -1 := by
  unfold wkL at h
  split at h
  case isTrue => omega
  case isFalse hg =>
    unfold wkL
    rw [if_neg]
    rw [gdL_app, szL_app]
    intro hh
    refine hg ⟨?_, by omega⟩
    have := hh.1
    simp only [Bool.and_eq_true] at this
    exact this.1
theorem wkL_le (ask : Bool) (D M : Int) (dep left : Nat) (l : List Tr) : wkL ask D M dep left l = -1 ∨ ∃ c : Nat, wkL ask D M dep left l = c ∧ c ≤ left := by
  unfold wkL
  split
  · exact .inr ⟨_, rfl, by omega⟩
  · exact .inl rfl
theorem wk_zero (ask : Bool) (D M : Int) (dep : Nat) (t : Tr) : wk ask D M dep 0 t = -1 := by
  unfold wk
  rw [if_neg]
  intro h
  have := t.sz_eq
  omega
theorem wk_ask {D M : Int} {dep left : Nat} {t : Tr} (h : t.fit D M = false ∨ 20 < dep) : wk true D M dep left t = -1 := by
  unfold wk
  rw [if_neg]
  rintro ⟨h1, -⟩
  unfold gd at h1
  rw [t.fitA_eq, t.dp_eq] at h1
  simp only [Bool.not_true, Bool.false_or, Bool.and_eq_true, decide_eq_true_eq] at h1
  rcases h with h | h
  · rw [h] at h1; exact absurd h1.1.1 (by simp)
  · omega
theorem wk_step {ask : Bool} {D M : Int} {dep left : Nat} {t : Tr} (h : ask = true → t.fit D M = true ∧ dep ≤ 20) : wk ask D M dep (left + 1) t = wkL ask D M (dep + 1) left t.kids := by
  unfold wk wkL
  have hs := t.sz_eq
  have hg : gd ask D M dep t = gdL ask D M (dep + 1) t.kids := by
    unfold gd gdL
    cases ask with
    | false => rfl
    | true =>
      obtain ⟨h1, h2⟩ := h rfl
      rw [t.fitA_eq, h1, t.dp_eq, Bool.true_and]
      congr 2
      apply decide_eq_decide.2
      constructor
      · intro h; exact .inr (by omega)
      · rintro (h | h)
        · rw [h]; show dep + (1 + 0) ≤ 21; omega
        · omega
  rw [hg]
  by_cases hx : gdL ask D M (dep + 1) t.kids = true ∧ szL t.kids ≤ left
  · rw [if_pos hx, if_pos ⟨hx.1, by omega⟩]; omega
  · rw [if_neg hx, if_neg fun h => hx ⟨h.1, by omega⟩]

set_option maxHeartbeats 8000000 in
theorem walk_any (ask : Bool) (D M : Int) : ∀ (N : Nat) (t : Tr), SizeOf.sizeOf t < N → ∀ (w : World) (dep left : Nat), t.Ok w → dep + left ≤ 400 →
    Calls Tryz.prog 42 #[.agg #[.int .i64 D, .int .i64 M], .agg #[.int .i64 t.k, .int .i64 t.d, t.tv, .int .i64 t.lo, .int .i64 t.hi, t.kv], .int .i64 dep, .int .i64 left, .bool ask] w fun e w' => e = .returned (.int .i64 (wk ask D M dep left t)) ∧ Grows w w' := by
  intro N
  induction N with
  | zero => intro t ht; omega
  | succ N ih =>
    intro t ht w dep left h hdl
    obtain ⟨at', nt, ct, ak, nk, ck, e1, e2, -, -, -, -⟩ := h.lens
    obtain ⟨W, hW⟩ : ∃ W, W = (w.alloc (.cells #[.int .i64 D, .int .i64 M] 23)).alloc (.cells #[.int .i64 t.k, .int .i64 t.d, t.tv, .int .i64 t.lo, .int .i64 t.hi, t.kv] 29) := ⟨_, rfl⟩
    have gW : Grows w W := by rw [hW]; exact (Grows.alloc _ _).trans (Grows.alloc _ _)
    have zW : W.heap.size = w.heap.size + 2 := by rw [hW]; simp
    have hbox : ∀ w5, Below W.heap.size W w5 → (w5.cell? ⟨w.heap.size, 0, none⟩ = some (.int .i64 D) ∧ w5.cell? ⟨w.heap.size, 1, none⟩ = some (.int .i64 M)) ∧ ∀ c u, (#[Value.int .i64 t.k, .int .i64 t.d, t.tv, .int .i64 t.lo, .int .i64 t.hi, t.kv])[c]? = some u → w5.cell? ⟨w.heap.size + 1, c, none⟩ = some u := fun w5 h5 => by
      refine ⟨⟨?_, ?_⟩, fun c u hc => ?_⟩
      · rw [h5.cell (by rw [zW]; show w.heap.size < _; omega), hW]; simp
      · rw [h5.cell (by rw [zW]; show w.heap.size < _; omega), hW]; simp
      · rw [h5.cell (by rw [zW]; show w.heap.size + 1 < _; omega), hW]
        have hs : w.heap.size + 1 = (w.alloc (.cells #[.int .i64 D, .int .i64 M] 23)).heap.size := by simp
        rw [hs]
        simpa using hc
    have kP := refpart_any W D M t (h.up gW.below)
    have kK := refkids_any W t (h.up gW.below)
    have HBX : Aside _ := hbox
    have HG : Hid (Grows w W) := gW
    have HW : Hid _ := hW
    have HO : Hid (t.Ok W ∧ SizeOf.sizeOf t < N + 1) := ⟨h.up gW.below, ht⟩
    have HE : Hid (t.tv = .slice at' nt ct ∧ t.kv = .slice ak nk ck) := ⟨e1, e2⟩
    have HI : Aside _ := ih
    have mixed : Tryz.prog.follows .mixedOrders = true := by kernel_rfl
    rw [hW, e1, e2] at kP kK
    rw [e1, e2] at HW ⊢
    clear h gW hW hbox zW e1 e2 ih ht
    cases left with
    | zero =>
      rw [wk_zero]
      clear kP kK
      go_enter Tryz.func42, Tryz.ntmps42
      go_wp2_with fail
      rw [← HW.out]
      go_ret
      exact ⟨rfl, HG.out⟩
    | succ left =>
      obtain ⟨L, hL⟩ : ∃ L : Nat, L = left + 1 := ⟨_, rfl⟩
      obtain ⟨E, hE⟩ : ∃ E : Nat, E = dep + 1 := ⟨_, rfl⟩
      rw [← hL]
      have hls : (L : Int) - 1 = (left : Int) := by omega
      have hes : (dep : Int) + 1 = (E : Int) := by omega
      have hl0 : ¬ (left : Int) < 0 := by omega
      have hLb : L ≤ 400 := by omega
      have hDb : dep ≤ 400 := by omega
      have HL : Hid (L = left + 1) := hL
      have HDL : Hid (dep + L ≤ 400) := by show _ ≤ _; omega
      have HEE : Hid (E = dep + 1) := hE
      clear hL hE hdl kK
      cases ask with
      | false =>
        clear kP
        go_enter Tryz.func42, Tryz.ntmps42
        go_upto_region 8 with fail
        rw [← HW.out]
        obtain ⟨w5, hw5⟩ : ∃ w5, w5 = W := ⟨_, rfl⟩
        rw [← hw5]
        have g5 : Grows W w5 := by rw [hw5]; exact Grows.refl _
        clear hw5
        obtain ⟨-, y⟩ := HBX.out w5 g5.below
        have y0 := y 0 _ rfl
        have y1 := y 1 _ rfl
        have y2 := y 2 _ rfl
        have y3 := y 3 _ rfl
        have y4 := y 4 _ rfl
        have y5 := y 5 _ rfl
        rw [HE.out.1] at y2
        rw [HE.out.2] at y5
        have kK := refkids_any w5 t (HO.out.1.up g5.below)
        rw [HE.out.1, HE.out.2] at kK
        have HG5 : Hid (Grows W w5) := g5
        clear y g5
        go_wp2_with fail
        refine kK.mono ?_
        rintro e V ⟨rfl, gV⟩
        have GV : Grows W V := HG5.out.trans gV
        have rk := (HO.out.1.up GV.below).rkids
        obtain ⟨a6, n6, c6, e6⟩ := rk.sl
        rw [e6] at rk ⊢
        obtain ⟨hn6, hc6, hc7⟩ := rk.len
        unfold maxLen at hc7
        have HN6 : Hid (n6 = t.kids.length) := hn6
        have HRK : Hid (RdsT V (.slice a6 n6 c6) t.kids) := rk
        have HGV : Hid (Grows W V) := GV
        have HWK : Hid (wk false D M dep L t = wkL false D M E left t.kids) := by
          show _ = _
          rw [HL.out, HEE.out]
          exact wk_step (fun h => by cases h)
        clear kK gV GV rk hn6 e6 y0 y1 y2 y3 y4 y5 HG5
        go_wp2_with fail
        go_loopg [3, 13] n6 (fun kx v3 v13 wr => ∃ (i : Nat) (z : Int), v13 = .int .i64 i ∧ v3 = .int .i64 z ∧ i ≤ n6 ∧ n6 - i ≤ kx ∧ Hid (wkL false D M E left (t.kids.take i) = z) ∧ Hid (Grows V wr))
        case atStart => exact ⟨0, left, rfl, rfl, by omega, Nat.le_refl _, (show wkL false D M E left (t.kids.take 0) = left by rw [List.take_zero]; exact wkL_nil _ _ _ _ _), Grows.refl _⟩
        case round =>
          obtain ⟨i, z, rfl, rfl, hi', hkx, HZ, HGr⟩ := hrel
          by_cases hlt : i < n6
          · have hltz : (i : Int) < (n6 : Int) := by omega
            have hltd : decide ((i : Int) < (n6 : Int)) = true := decide_eq_true hltz
            have hil : i < t.kids.length := by have := HN6.out; omega
            rcases wkL_le false D M E left (t.kids.take i) with hz | ⟨c, hz, hcl⟩
            · have hz1 : z = -1 := by rw [← HZ.out]; exact hz
              subst hz1
              go_wp2_with fail
              go_ret
              refine ⟨ret_int ?_, HG.out.trans (HGV.out.trans HGr.out)⟩
              rw [HWK.out]
              have h9 := wkL_bad (t.kids.drop i) (show wkL false D M E left (t.kids.take i) < 0 by rw [hz]; decide)
              rw [List.take_append_drop] at h9
              exact h9.symm
            · have hz1 : z = (c : Int) := by rw [← HZ.out]; exact hz
              subst hz1
              have hcz : decide ((0 : Int) ≤ (c : Int)) = true := decide_eq_true (by omega)
              have hr := RdsT.below HRK.out HGr.out.below
              obtain ⟨b, off, rfl, hcell⟩ := hr.at (by omega)
              obtain ⟨q0, q1, q2, q3, q4, q5⟩ := hcell i hil
              have ok := hr.ok t.kids[i] (List.getElem_mem hil)
              have hlt' := kids_lt (List.getElem_mem hil)
              have htk : t.kids.take (i + 1) = t.kids.take i ++ [t.kids[i]] := List.take_succ_eq_append_getElem hil
              generalize t.kids[i] = x at *
              have HT : Hid _ := htk
              have kR : ∀ nq os, Calls Tryz.prog 42 #[.agg #[.int .i64 D, .int .i64 M], .agg #[.int .i64 x.k, .int .i64 x.d, x.tv, .int .i64 x.lo, .int .i64 x.hi, x.kv], .int .i64 E, .int .i64 c, .bool false] (grow (wr.drewN nq) os) fun e w' => e = .returned (.int .i64 (wk false D M E c x)) ∧ ∃ q os', w' = grow ((grow (wr.drewN nq) os).drewN q) os' := fun nq os =>
                HI.out x (by have := HO.out.2; omega) _ E c (ok.up (below_grown_sl _ wr nq os (Nat.le_refl _))) (by have := HEE.out; have := HL.out; have := HDL.out; omega)
              obtain ⟨bt, ntx, ctx, bk, nkx, ckx, f1, f2, -, -, -, -⟩ := ok.lens
              obtain ⟨⟨z0, z1⟩, -⟩ := HBX.out wr (HGV.out.trans HGr.out).below
              have z0' := fun nq os => cell_gr z0 nq os
              have z1' := fun nq os => cell_gr z1 nq os
              rw [f1, f2] at kR
              rw [f1] at q2
              rw [f2] at q5
              have q0' := fun nq os => cell_gr q0 nq os
              have q1' := fun nq os => cell_gr q1 nq os
              have q2' := fun nq os => cell_gr q2 nq os
              have q3' := fun nq os => cell_gr q3 nq os
              have q4' := fun nq os => cell_gr q4 nq os
              have q5' := fun nq os => cell_gr q5 nq os
              have HST : Hid (wkL false D M E left (t.kids.take i ++ [x]) = wk false D M E c x) := wkL_step hz
              obtain ⟨R, hR⟩ : ∃ R, R = wk false D M E c x := ⟨_, rfl⟩
              rw [← hR] at kR HST
              generalize x.k = xk at *
              generalize x.d = xd at *
              generalize x.lo = xl at *
              generalize x.hi = xh at *
              clear ok hr hcell hlt' htk f1 f2 z0 z1 q0 q1 q2 q3 q4 q5 hR hz
              go_wp2_with fail
              refine wp_region_quiet_grown (by assumption) (by kernel_rfl) ?_
              repeat (go_big_quiet_step (first | (go_at_call 42; refine Calls.grown_of (kR _ _))))
              refine wpQuiet_nil ?_
              intro _ hw'
              obtain ⟨⟨nq, osq⟩, hw''⟩ := hw'
              subst hw''
              go_wp2_with fail
              go_roundg (n6 - (i + 1))
              case measure => omega
              case rel =>
                refine ⟨i + 1, R, by go_num, rfl, by omega, Nat.le_refl _, ?_, HGr.out.trans ⟨nq, osq, rfl⟩⟩
                show _ = _
                rw [HT.out]; exact HST.out
          · have hltz : ¬ (i : Int) < (n6 : Int) := by omega
            have hltd : decide ((i : Int) < (n6 : Int)) = false := decide_eq_false hltz
            go_wp2_with fail
            go_ret
            refine ⟨ret_int ?_, HG.out.trans (HGV.out.trans HGr.out)⟩
            rw [HWK.out, ← HZ.out, List.take_of_length_le (by have := HN6.out; omega)]
      | true =>
        generalize hF : t.fit D M = F at kP
        have HF : Hid (t.fit D M = F) := hF
        clear hF
        by_cases hd : (20 : Int) < (dep : Int)
        · have HK : Hid (wk true D M dep L t = -1) := wk_ask (.inr (by omega))
          have hdd : decide ((20 : Int) < (dep : Int)) = true := decide_eq_true hd
          go_enter Tryz.func42, Tryz.ntmps42
          go_wp2_with fail
          refine kP.mono ?_
          rintro e w5 ⟨rfl, g5⟩
          rw [← HW.out] at g5
          cases F <;>
            (go_wp2_with fail
             go_ret
             exact ⟨ret_int HK.out.symm, HG.out.trans g5⟩)
        · have hdd : decide ((20 : Int) < (dep : Int)) = false := decide_eq_false hd
          cases F with
          | false =>
            have HK : Hid (wk true D M dep L t = -1) := wk_ask (.inl HF.out)
            go_enter Tryz.func42, Tryz.ntmps42
            go_wp2_with fail
            refine kP.mono ?_
            rintro e w5 ⟨rfl, g5⟩
            rw [← HW.out] at g5
            go_wp2_with fail
            go_ret
            exact ⟨ret_int HK.out.symm, HG.out.trans g5⟩
          | true =>
            have HDD : Hid (dep ≤ 20) := by show _ ≤ _; omega
            go_enter Tryz.func42, Tryz.ntmps42
            go_wp2_with fail
            refine kP.mono ?_
            rintro e w5 ⟨rfl, g5⟩
            rw [← HW.out] at g5
            clear kP
            obtain ⟨-, y⟩ := HBX.out w5 g5.below
            have y0 := y 0 _ rfl
            have y1 := y 1 _ rfl
            have y2 := y 2 _ rfl
            have y3 := y 3 _ rfl
            have y4 := y 4 _ rfl
            have y5 := y 5 _ rfl
            rw [HE.out.1] at y2
            rw [HE.out.2] at y5
            have kK := refkids_any w5 t (HO.out.1.up g5.below)
            rw [HE.out.1, HE.out.2] at kK
            have HG5 : Hid (Grows W w5) := g5
            clear y g5
            go_wp2_with fail
            refine kK.mono ?_
            rintro e V ⟨rfl, gV⟩
            have GV : Grows W V := HG5.out.trans gV
            have rk := (HO.out.1.up GV.below).rkids
            obtain ⟨a6, n6, c6, e6⟩ := rk.sl
            rw [e6] at rk ⊢
            obtain ⟨hn6, hc6, hc7⟩ := rk.len
            unfold maxLen at hc7
            have HN6 : Hid (n6 = t.kids.length) := hn6
            have HRK : Hid (RdsT V (.slice a6 n6 c6) t.kids) := rk
            have HGV : Hid (Grows W V) := GV
            have HWK : Hid (wk true D M dep L t = wkL true D M E left t.kids) := by
              show _ = _
              rw [HL.out, HEE.out]
              exact wk_step (fun _ => ⟨HF.out, HDD.out⟩)
            clear kK gV GV rk hn6 e6 y0 y1 y2 y3 y4 y5 HG5
            go_wp2_with fail
            go_loopg [3, 13] n6 (fun kx v3 v13 wr => ∃ (i : Nat) (z : Int), v13 = .int .i64 i ∧ v3 = .int .i64 z ∧ i ≤ n6 ∧ n6 - i ≤ kx ∧ Hid (wkL true D M E left (t.kids.take i) = z) ∧ Hid (Grows V wr))
            case atStart => exact ⟨0, left, rfl, rfl, by omega, Nat.le_refl _, (show wkL true D M E left (t.kids.take 0) = left by rw [List.take_zero]; exact wkL_nil _ _ _ _ _), Grows.refl _⟩
            case round =>
              obtain ⟨i, z, rfl, rfl, hi', hkx, HZ, HGr⟩ := hrel
              by_cases hlt : i < n6
              · have hltz : (i : Int) < (n6 : Int) := by omega
                have hltd : decide ((i : Int) < (n6 : Int)) = true := decide_eq_true hltz
                have hil : i < t.kids.length := by have := HN6.out; omega
                rcases wkL_le true D M E left (t.kids.take i) with hz | ⟨c, hz, hcl⟩
                · have hz1 : z = -1 := by rw [← HZ.out]; exact hz
                  subst hz1
                  go_wp2_with fail
                  go_ret
                  refine ⟨ret_int ?_, HG.out.trans (HGV.out.trans HGr.out)⟩
                  rw [HWK.out]
                  have h9 := wkL_bad (t.kids.drop i) (show wkL true D M E left (t.kids.take i) < 0 by rw [hz]; decide)
                  rw [List.take_append_drop] at h9
                  exact h9.symm
                · have hz1 : z = (c : Int) := by rw [← HZ.out]; exact hz
                  subst hz1
                  have hcz : decide ((0 : Int) ≤ (c : Int)) = true := decide_eq_true (by omega)
                  have hr := RdsT.below HRK.out HGr.out.below
                  obtain ⟨b, off, rfl, hcell⟩ := hr.at (by omega)
                  obtain ⟨q0, q1, q2, q3, q4, q5⟩ := hcell i hil
                  have ok := hr.ok t.kids[i] (List.getElem_mem hil)
                  have hlt' := kids_lt (List.getElem_mem hil)
                  have htk : t.kids.take (i + 1) = t.kids.take i ++ [t.kids[i]] := List.take_succ_eq_append_getElem hil
                  generalize t.kids[i] = x at *
                  have HT : Hid _ := htk
                  have kR : ∀ nq os, Calls Tryz.prog 42 #[.agg #[.int .i64 D, .int .i64 M], .agg #[.int .i64 x.k, .int .i64 x.d, x.tv, .int .i64 x.lo, .int .i64 x.hi, x.kv], .int .i64 E, .int .i64 c, .bool true] (grow (wr.drewN nq) os) fun e w' => e = .returned (.int .i64 (wk true D M E c x)) ∧ ∃ q os', w' = grow ((grow (wr.drewN nq) os).drewN q) os' := fun nq os =>
                    HI.out x (by have := HO.out.2; omega) _ E c (ok.up (below_grown_sl _ wr nq os (Nat.le_refl _))) (by have := HEE.out; have := HL.out; have := HDL.out; omega)
                  obtain ⟨bt, ntx, ctx, bk, nkx, ckx, f1, f2, -, -, -, -⟩ := ok.lens
                  obtain ⟨⟨z0, z1⟩, -⟩ := HBX.out wr (HGV.out.trans HGr.out).below
                  have z0' := fun nq os => cell_gr z0 nq os
                  have z1' := fun nq os => cell_gr z1 nq os
                  rw [f1, f2] at kR
                  rw [f1] at q2
                  rw [f2] at q5
                  have q0' := fun nq os => cell_gr q0 nq os
                  have q1' := fun nq os => cell_gr q1 nq os
                  have q2' := fun nq os => cell_gr q2 nq os
                  have q3' := fun nq os => cell_gr q3 nq os
                  have q4' := fun nq os => cell_gr q4 nq os
                  have q5' := fun nq os => cell_gr q5 nq os
                  have HST : Hid (wkL true D M E left (t.kids.take i ++ [x]) = wk true D M E c x) := wkL_step hz
                  obtain ⟨R, hR⟩ : ∃ R, R = wk true D M E c x := ⟨_, rfl⟩
                  rw [← hR] at kR HST
                  generalize x.k = xk at *
                  generalize x.d = xd at *
                  generalize x.lo = xl at *
                  generalize x.hi = xh at *
                  clear ok hr hcell hlt' htk f1 f2 z0 z1 q0 q1 q2 q3 q4 q5 hR hz
                  go_wp2_with fail
                  refine wp_region_quiet_grown (by assumption) (by kernel_rfl) ?_
                  repeat (go_big_quiet_step (first | (go_at_call 42; refine Calls.grown_of (kR _ _))))
                  refine wpQuiet_nil ?_
                  intro _ hw'
                  obtain ⟨⟨nq, osq⟩, hw''⟩ := hw'
                  subst hw''
                  go_wp2_with fail
                  go_roundg (n6 - (i + 1))
                  case measure => omega
                  case rel =>
                    refine ⟨i + 1, R, by go_num, rfl, by omega, Nat.le_refl _, ?_, HGr.out.trans ⟨nq, osq, rfl⟩⟩
                    show _ = _
                    rw [HT.out]; exact HST.out
              · have hltz : ¬ (i : Int) < (n6 : Int) := by omega
                have hltd : decide ((i : Int) < (n6 : Int)) = false := decide_eq_false hltz
                go_wp2_with fail
                go_ret
                refine ⟨ret_int ?_, HG.out.trans (HGV.out.trans HGr.out)⟩
                rw [HWK.out, ← HZ.out, List.take_of_length_le (by have := HN6.out; omega)]
theorem wk_may (D M : Int) (t : Tr) : decide (wk true D M 1 200 t < 0) = !t.may D M := by
  unfold wk gd Tr.may
  simp only [Bool.not_true, Bool.false_or]
  by_cases h1 : t.sz ≤ 200
  · by_cases h2 : t.dp ≤ 20
    · rw [decide_eq_true h1, decide_eq_true h2, decide_eq_true (p := 1 + t.dp ≤ 21) (by omega)]
      cases t.fitA D M with
      | true => rw [if_pos ⟨rfl, h1⟩]; exact decide_eq_false (by omega)
      | false => rw [if_neg fun h => by simp at h]; rfl
    · rw [decide_eq_true h1, decide_eq_false h2, decide_eq_false (p := 1 + t.dp ≤ 21) (by omega)]
      rw [if_neg fun h => by simp at h]
      simp
  · rw [decide_eq_false h1, if_neg fun h => h1 h.2]
    simp
theorem not_of_true {b c : Bool} (h : b = !c) (hb : b = true) : c = false := by cases c <;> simp_all
theorem not_of_false {b c : Bool} (h : b = !c) (hb : b = false) : c = true := by cases c <;> simp_all
set_option maxHeartbeats 1600000 in
theorem refcheck_any (w : World) (D M : Int) (t : Tr) (h : t.Ok w) :
    Calls Tryz.prog 17 #[.agg #[.int .i64 D, .int .i64 M], .agg #[.int .i64 t.k, .int .i64 t.d, t.tv, .int .i64 t.lo, .int .i64 t.hi, t.kv]] w fun e w' => e = .returned (.int .i64 (errB (t.may D M))) ∧ Grows w w' := by
  obtain ⟨at', nt, ct, ak, nk, ck, e1, e2, -, -, -, -⟩ := h.lens
  obtain ⟨W, hW⟩ : ∃ W, W = (w.alloc (.cells #[.int .i64 D, .int .i64 M] 23)).alloc (.cells #[.int .i64 t.k, .int .i64 t.d, t.tv, .int .i64 t.lo, .int .i64 t.hi, t.kv] 29) := ⟨_, rfl⟩
  have gW : Grows w W := by rw [hW]; exact (Grows.alloc _ _).trans (Grows.alloc _ _)
  have kW := walk_any true D M _ t (Nat.lt_succ_self _) W 1 200 (h.up gW.below) (by omega)
  rw [show ((1 : Nat) : Int) = 1 from rfl, show ((200 : Nat) : Int) = 200 from rfl] at kW
  have hm := wk_may D M t
  obtain ⟨R, hR⟩ : ∃ R, R = wk true D M 1 200 t := ⟨_, rfl⟩
  rw [← hR] at kW hm
  have HM : Hid (decide (R < 0) = !t.may D M) := hm
  have HG : Hid (Grows w W) := gW
  have HW : Hid _ := hW
  rw [hW, e1, e2] at kW
  rw [e1, e2] at HW ⊢
  clear h gW hW e1 e2 hm hR
  go_enter Tryz.func17, Tryz.ntmps17
  go_wp2_with fail
  refine kW.mono ?_
  rintro e w5 ⟨rfl, g5⟩
  rw [← HW.out] at g5
  by_cases hr : R < 0
  · have hd : decide (R < 0) = true := decide_eq_true hr
    have HB : Hid (t.may D M = false) := not_of_true HM.out hd
    go_wp2_with fail
    go_ret
    exact ⟨by rw [HB.out]; rfl, HG.out.trans g5⟩
  · have hd : decide (R < 0) = false := decide_eq_false hr
    have HB : Hid (t.may D M = true) := not_of_false HM.out hd
    go_wp2_with fail
    go_ret
    exact ⟨by rw [HB.out]; rfl, HG.out.trans g5⟩

end Go.Proofs.YtiiihjihegilnaaGreatDoor.Fi
