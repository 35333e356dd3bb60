/- The walk of the reference's May. -/
import Derived.Test.YtkoihniggoelnaaRMay
namespace Go.Proofs.Ytkoihniggoelnaa
open Go.RowKit Go.Sort

set_option maxHeartbeats 8000000 in
theorem refmay_any (w : World) (D M k c : Int) (p : Pt) (hp : p.Ok w) :
    Calls Try.prog 14 #[.agg #[.int .i64 D, .int .i64 M], .agg #[.int .i64 k, .int .i64 c], .agg #[.int .u64 p.n, .int .i64 p.v, p.tv]] w fun e w' => e = .returned (.bool (fitv D M k c && rmayK k p.p0)) ∧ Grows w w' := by
  obtain ⟨W, hW⟩ : ∃ W, W = ((w.alloc (.cells #[.int .i64 D, .int .i64 M] 23)).alloc (.cells #[.int .i64 k, .int .i64 c] 26)).alloc (.cells #[.int .u64 p.n, .int .i64 p.v, p.tv] 30) := ⟨_, rfl⟩
  have gW : Grows w W := by rw [hW]; exact ((Grows.alloc _ _).trans (Grows.alloc _ _)).trans (Grows.alloc _ _)
  have hp0 : Box3 W (w.heap.size + 1 + 1) (.int .u64 p.n) (.int .i64 p.v) p.tv := by rw [hW]; exact Box3.new _ _ _ _ _ _ (by simp)
  have ha0 : W.cell? ⟨w.heap.size + 1, 0, none⟩ = some (.int .i64 k) ∧ W.cell? ⟨w.heap.size + 1, 1, none⟩ = some (.int .i64 c) := by
    rw [hW]
    exact ⟨cell_up (Grows.alloc _ _).below (al_new _ _ _ (by simp) rfl), cell_up (Grows.alloc _ _).below (al_new _ _ _ (by simp) rfl)⟩
  have kF := reffine_any W D M k c
  have okp := hp.up gW.below
  obtain ⟨a1, n1, c1, e1⟩ := hp.rt.sl
  obtain ⟨h1, h2, h3⟩ := hp.len e1
  unfold maxLen at h3
  have hr := okp.rt
  rw [e1] at hr hp0 hW ⊢
  obtain ⟨-, -, -, c3⟩ := hr.cells
  rw [sv_length] at c3
  have HC : Hid _ := c3
  have HN : Hid (n1 = p.ts.length) := h1
  have HBx : Hid (Box3 W (w.heap.size + 1 + 1) (.int .u64 p.n) (.int .i64 p.v) (.slice a1 n1 c1)) := hp0
  have HA : Hid _ := ha0
  have HGW : Hid (Grows w W) := gW
  have HW : Hid _ := hW
  rw [hW] at kF
  obtain ⟨Q, hQ⟩ : ∃ Q, fitv D M k c = Q := ⟨_, rfl⟩
  rw [hQ] at kF ⊢
  have hwr : IntKind.u64.wrap (n1 : Int) = n1 := by simp [IntKind.wrap, IntKind.bits, IntKind.signed]; omega
  have hK : rmayK k p.p0 = if k = 5 then (if (!longL p.ts && riseL p.ts) = true then (if p.n = 0 then decide (p.v = 0) && decide (p.ts.length = 0) else decide (p.v = 0) && (decide (0 < p.ts.length) && decide ((p.ts.length : Int) ≤ p.n))) else false) else if p.ts.length = 0 then (if p.n = 0 ∨ k = 1 then decide (p.v = 0) else true) else false := rfl
  obtain ⟨K, hKe⟩ : ∃ K, rmayK k p.p0 = K := ⟨_, rfl⟩
  rw [hKe]
  rw [hKe] at hK
  have HK : Hid _ := hK
  clear hp gW hp0 ha0 okp e1 hr c3 h1 hW hQ hK hKe
  go_enter Try.func14, Try.ntmps14
  go_wp2_with fail
  refine kF.mono ?_
  rintro e w3 ⟨rfl, g3⟩
  rw [← HW.out] at g3
  obtain ⟨y0, y1, y2, -⟩ := HBx.out.up g3.below
  have x0 := cell_up g3.below HA.out.1
  have HG3 : Hid (Grows W w3) := g3
  clear kF g3
  cases Q with
  | false =>
    go_wp2_with fail
    go_ret
    exact ⟨rfl, HGW.out.trans HG3.out⟩
  | true =>
    by_cases h5 : k = 5
    · have hk5 : (k == 5) = true := by simp [h5]
      have HK5 : Hid (K = if (!longL p.ts && riseL p.ts) = true then (if p.n = 0 then decide (p.v = 0) && decide (p.ts.length = 0) else decide (p.v = 0) && (decide (0 < p.ts.length) && decide ((p.ts.length : Int) ≤ p.n))) else false) := by show _ = _; rw [HK.out, if_pos h5]
      clear h5
      go_wp2_with fail
      go_loopg [8] n1 (fun kx vi wr => ∃ i : Nat, vi = .int .i64 i ∧ i ≤ n1 ∧ n1 - i ≤ kx ∧ Hid (∀ j, j < i → (p.ts.getD j []).length ≤ 64) ∧ Hid (∀ j, j + 1 < i → Op.bytesLess (p.ts.getD j []) (p.ts.getD (j + 1) []) = true) ∧ Hid (Grows W wr))
      case atStart => exact ⟨0, rfl, by omega, Nat.le_refl _, fun j hj => by omega, fun j hj => by omega, HG3.out⟩
      case round =>
        clear y0 y1 y2 x0
        obtain ⟨i, rfl, hin, hkx, HJ1, HJ2, HG⟩ := hrel
        obtain ⟨y0, y1, y2, -⟩ := HBx.out.up HG.out.below
        by_cases hlt : i < n1
        · have hltz : (i : Int) < (n1 : Int) := by omega
          obtain ⟨b, off, rfl, hcl⟩ := HC.out (by have := HN.out; omega)
          have q1 := cell_up HG.out.below (hcl i _ (sv_get p.ts i (by have := HN.out; omega)))
          have hsz := str_size (p.ts.getD i [])
          by_cases hlong : 64 < (p.ts.getD i []).length
          · have HKf : Hid (K = false) := by
              show _ = _
              rw [HK5.out]
              have : longL p.ts = true := by
                rw [← Bool.not_eq_false]
                intro hh
                have := (longL_iff p.ts).1 hh i (by have := HN.out; omega)
                omega
              rw [this]; rfl
            have hlz : decide (64 < ((p.ts.getD i []).length : Int)) = true := decide_eq_true (by omega)
            generalize p.ts.getD i [] = y at *
            clear hcl
            go_wp2_with fail
            go_quiet (fail)
            go_wp2_with fail
            go_ret
            exact ⟨by rw [HKf.out]; rfl, HGW.out.trans (HG.out.trans (Grows.drewN _ _))⟩
          · have hlz : decide (64 < ((p.ts.getD i []).length : Int)) = false := decide_eq_false (by omega)
            have HJ1' : Hid (∀ j, j < i + 1 → (p.ts.getD j []).length ≤ 64) := fun j hj => by
              by_cases e : j = i
              · subst e; omega
              · exact HJ1.out j (by omega)
            rcases Nat.eq_zero_or_pos i with hz | hpo
            · subst hz
              generalize p.ts.getD 0 [] = y at *
              simp only [Nat.add_zero] at q1
              clear hcl
              go_wp2_with fail
              go_quiet (fail)
              go_wp2_with fail
              go_roundg (n1 - (0 + 1))
              case measure => omega
              case rel => exact ⟨0 + 1, by go_num, by omega, Nat.le_refl _, HJ1'.out, (fun j hj => by omega), HG.out.trans (Grows.drewN _ _)⟩
            · obtain ⟨m, rfl⟩ : ∃ m, i = m + 1 := ⟨i - 1, by omega⟩
              have q0 := cell_up HG.out.below (hcl m _ (sv_get p.ts m (by have := HN.out; omega)))
              have hkd : decide (0 < m + 1) = true := by simp
              have hkl : (m : Int) < (n1 : Int) := by omega
              have HL : Hid (Op.bytesLess (p.ts.getD m []) (p.ts.getD (m + 1) []) = true → ∀ j, j + 1 < m + 1 + 1 → Op.bytesLess (p.ts.getD j []) (p.ts.getD (j + 1) []) = true) := fun hh j hj => by
                by_cases e : j = m
                · subst e; exact hh
                · exact HJ2.out j (by omega)
              have HF : Hid (Op.bytesLess (p.ts.getD m []) (p.ts.getD (m + 1) []) = false → K = false) := fun hh => by
                rw [HK5.out]
                have : riseL p.ts = false := by
                  rw [Bool.eq_false_iff]
                  intro ht
                  have := (riseL_iff p.ts).1 ht m (by have := HN.out; omega)
                  rw [hh] at this; cases this
                rw [this, Bool.and_false]; rfl
              generalize p.ts.getD m [] = x at *
              generalize p.ts.getD (m + 1) [] = y at *
              have hx := str_toList x
              have hy := str_toList y
              clear hcl
              cases hb : Op.bytesLess x y with
              | true =>
                have HJ3 : Hid _ := HL.out hb
                go_wp2_with fail
                go_quiet (fail)
                go_wp2_with fail
                go_roundg (n1 - (m + 1 + 1))
                case measure => omega
                case rel => exact ⟨m + 1 + 1, by go_num, by omega, Nat.le_refl _, HJ1'.out, HJ3.out, HG.out.trans (Grows.drewN _ _)⟩
              | false =>
                have HF2 : Hid _ := HF.out hb
                go_wp2_with fail
                go_quiet (fail)
                go_wp2_with fail
                go_ret
                exact ⟨by rw [HF2.out]; rfl, HGW.out.trans (HG.out.trans (Grows.drewN _ _))⟩
        · have hltz : ¬ (i : Int) < (n1 : Int) := by omega
          have hlo : longL p.ts = false := (longL_iff p.ts).2 fun j hj => HJ1.out j (by have := HN.out; omega)
          have hri : riseL p.ts = true := (riseL_iff p.ts).2 fun j hj => HJ2.out j (by have := HN.out; omega)
          have HK6 : Hid (K = if p.n = 0 then decide (p.v = 0) && decide (n1 = 0) else decide (p.v = 0) && (decide (0 < n1) && decide ((n1 : Int) ≤ p.n))) := by show _ = _; rw [HK5.out, hlo, hri, HN.out]; rfl
          clear hlo hri
          by_cases hn : p.n = 0
          · have hnb : (p.n == 0) = true := by simp [hn]
            have HNz : Hid (p.n = 0) := hn
            clear hn
            by_cases hv : p.v = 0
            · have hvb : (p.v == 0) = true := by simp [hv]
              have HV : Hid (p.v = 0) := hv
              clear hv
              rcases Nat.eq_zero_or_pos n1 with hz | hpo
              · subst hz
                go_wp2_with fail
                go_ret
                exact ⟨by rw [HK6.out]; simp [HNz.out, HV.out], HGW.out.trans HG.out⟩
              · have hzb : ((n1 : Int) == 0) = false := by simp; omega
                have hz2 : ¬ n1 = 0 := by omega
                go_wp2_with fail
                go_ret
                exact ⟨by rw [HK6.out]; simp [HNz.out, HV.out, hz2], HGW.out.trans HG.out⟩
            · have hvb : (p.v == 0) = false := by simp [hv]
              have HV : Hid (¬ p.v = 0) := hv
              clear hv
              go_wp2_with fail
              go_ret
              exact ⟨by rw [HK6.out]; simp [HNz.out, HV.out], HGW.out.trans HG.out⟩
          · have hnb : (p.n == 0) = false := by simp [hn]
            have HNz : Hid (¬ p.n = 0) := hn
            clear hn
            by_cases hv : p.v = 0
            · have hvb : (p.v == 0) = true := by simp [hv]
              have HV : Hid (p.v = 0) := hv
              clear hv
              rcases Nat.eq_zero_or_pos n1 with hz | hpo
              · subst hz
                go_wp2_with fail
                go_ret
                exact ⟨by rw [HK6.out]; simp [HNz.out, HV.out], HGW.out.trans HG.out⟩
              · have hpd : decide (0 < n1) = true := by simp [hpo]
                go_wp2_with fail
                go_ret
                exact ⟨by rw [HK6.out]; simp [HNz.out, HV.out, hpo], HGW.out.trans HG.out⟩
            · have hvb : (p.v == 0) = false := by simp [hv]
              have HV : Hid (¬ p.v = 0) := hv
              clear hv
              go_wp2_with fail
              go_ret
              exact ⟨by rw [HK6.out]; simp [HNz.out, HV.out], HGW.out.trans HG.out⟩
    · have hk5 : (k == 5) = false := by simp [h5]
      have HK7 : Hid (K = if n1 = 0 then (if p.n = 0 ∨ k = 1 then decide (p.v = 0) else true) else false) := by show _ = _; rw [HK.out, if_neg h5, HN.out]
      rcases Nat.eq_zero_or_pos n1 with hz | hpo
      · subst hz
        by_cases hn : p.n = 0
        · have hnb : (p.n == 0) = true := by simp [hn]
          have HNz : Hid (p.n = 0) := hn
          clear hn
          go_wp2_with fail
          go_ret
          exact ⟨by rw [HK7.out]; simp [HNz.out]; rfl, HGW.out.trans HG3.out⟩
        · have hnb : (p.n == 0) = false := by simp [hn]
          have HNz : Hid (¬ p.n = 0) := hn
          clear hn
          by_cases h1 : k = 1
          · have hk1 : (k == 1) = true := by simp [h1]
            have HK1 : Hid (k = 1) := h1
            clear h1 h5
            go_wp2_with fail
            go_ret
            exact ⟨by rw [HK7.out]; simp [HNz.out, HK1.out]; rfl, HGW.out.trans HG3.out⟩
          · have hk1 : (k == 1) = false := by simp [h1]
            go_wp2_with fail
            go_ret
            exact ⟨by rw [HK7.out]; simp [HNz.out, h1], HGW.out.trans HG3.out⟩
      · have hzb : ((n1 : Int) == 0) = false := by simp; omega
        have hz2 : ¬ n1 = 0 := by omega
        go_wp2_with fail
        go_ret
        exact ⟨by rw [HK7.out]; simp [hz2], HGW.out.trans HG3.out⟩
end Go.Proofs.Ytkoihniggoelnaa
