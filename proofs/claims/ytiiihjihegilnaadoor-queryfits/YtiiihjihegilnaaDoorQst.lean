/- The contract of the reference's Sets. -/
import Derived.Test.YtiiihjihegilnaaDoorQrs
import Derived.Test.YtiiihjihegilnaaDoorQap
namespace Go.Proofs.YtiiihjihegilnaaDoor
open Go.RowKit Go.Sort

theorem RdsS.at {w : World} {ao : Option Addr} {n cap : Nat} {l : List St} (h : RdsS w (.slice ao n cap) l) : n = l.length ∧ n ≤ cap ∧ cap ≤ maxLen ∧ (0 < l.length → ∃ b off, ao = some ⟨b, off, none⟩ ∧ ∀ i (hi : i < l.length), w.cell? ⟨b, off + i, none⟩ = some l[i].1) := by
  obtain ⟨e0, e1, e2, e3, e4, e5⟩ := h.r.cells (by decide)
  refine ⟨e0, by omega, e3, fun hp => ?_⟩
  obtain ⟨b, off, e, hc⟩ := e4 hp
  exact ⟨b, off, e, fun i hi => hc i _ (by rw [List.getElem?_map, List.getElem?_eq_getElem hi]; rfl)⟩
theorem Rds.ints {w : World} {ao : Option Addr} {n cap : Nat} {l : List Int} (h : Rds w (.slice ao n cap) (iv l)) : n = l.length ∧ n ≤ cap ∧ cap ≤ maxLen ∧ (0 < l.length → ∃ b off, ao = some ⟨b, off, none⟩ ∧ ∀ i, i < l.length → w.cell? ⟨b, off + i, none⟩ = some (.int .i64 (l.getD i 0))) := by
  obtain ⟨e0, e1, e2, e3⟩ := h.cells
  rw [iv_length] at e0 e1 e3
  refine ⟨e0, by omega, e2, fun hp => ?_⟩
  obtain ⟨b, off, e, hc⟩ := e3 hp
  exact ⟨b, off, e, fun i hi => hc i _ (iv_get l i hi)⟩
def snds (l : List St) : List (List Int) := l.map (·.2)
theorem snds_ext {a b : List St} (hl : a.length = b.length) (h : ∀ i (ha : i < a.length) (hb : i < b.length), a[i].2 = b[i].2) : snds a = snds b := by
  apply List.ext_getElem
  · simp [snds, hl]
  · intro i h1 h2
    simp only [snds, List.getElem_map]
    exact h i (by simpa [snds] using h1) (by simpa [snds] using h2)
theorem snds_ne {a b : List St} {i : Nat} (ha : i < a.length) (hb : i < b.length) (h : a[i].2 ≠ b[i].2) : snds a ≠ snds b := fun e => h (by
  have h1 : (snds a)[i]'(by simpa [snds] using ha) = a[i].2 := by simp [snds]
  have h2 : (snds b)[i]'(by simpa [snds] using hb) = b[i].2 := by simp [snds]
  rw [← h1, ← h2]; simp only [e])
set_option maxRecDepth 100000 in
set_option maxHeartbeats 4000000 in
theorem sets_any (w : World) (va vb : Value) (a b : List St) (ha : RdsS w va a) (hb : RdsS w vb b) :
    Calls Tryd.prog 8 #[va, vb] w fun e w' => e = .returned (.bool (decide (snds a = snds b))) ∧ Grows w w' := by
  obtain ⟨aa, na, ca, rfl⟩ := ha.sl
  obtain ⟨ab, nb, cb, rfl⟩ := hb.sl
  obtain ⟨ea, ea1, ea2, -⟩ := ha.at
  obtain ⟨eb, eb1, eb2, -⟩ := hb.at
  unfold maxLen at ea2 eb2
  have HA : Hid _ := ha
  have HB : Hid _ := hb
  have HL : Hid (na = a.length ∧ nb = b.length) := ⟨ea, eb⟩
  have mixed : Tryd.prog.follows .mixedOrders = true := by kernel_rfl
  by_cases hne : na = nb
  · have hnz : ((na : Int) == (nb : Int)) = true := by rw [beq_iff_eq]; omega
    have hnb : ((na : Int) != (nb : Int)) = false := by unfold bne; rw [hnz]; rfl
    subst hne
    have HE : Hid (a.length = b.length) := by show _ = _; omega
    clear ha hb ea eb
    go_enter Tryd.func8, Tryd.ntmps8
    go_wp2_with fail
    go_loopg [5] na (fun kx v5 wr => ∃ i : Nat, v5 = .int .i64 i ∧ i ≤ na ∧ na - i ≤ kx ∧ Hid (∀ j (h1 : j < a.length) (h2 : j < b.length), j < i → a[j].2 = b[j].2) ∧ Hid (Grows w wr))
    case atStart => exact ⟨0, rfl, by omega, Nat.le_refl _, (fun _ _ _ h => by omega), Grows.refl _⟩
    case round =>
      obtain ⟨i, rfl, hi, hkx, HR, HG⟩ := hrel
      obtain ⟨Wo, hWo⟩ : ∃ Wo, Wo = wr := ⟨_, rfl⟩
      subst hWo
      by_cases hlt : i < na
      · have hltz : (i : Int) < (na : Int) := by omega
        have hia : i < a.length := by have := HL.out; omega
        have hib : i < b.length := by have := HL.out; omega
        have ra := HA.out.below (Grows.below HG.out)
        have rb := HB.out.below (Grows.below HG.out)
        obtain ⟨-, -, -, k1⟩ := ra.at
        obtain ⟨-, -, -, k2⟩ := rb.at
        obtain ⟨ba, oa, rfl, kc1⟩ := k1 (by omega)
        obtain ⟨bb, ob, rfl, kc2⟩ := k2 (by omega)
        have c1 := kc1 i hia
        have c2 := kc2 i hib
        have r1 := ra.ok _ (List.getElem_mem hia)
        have r2 := rb.ok _ (List.getElem_mem hib)
        obtain ⟨x1, m1, y1, h1⟩ := r1.sl
        obtain ⟨x2, m2, y2, h2⟩ := r2.sl
        rw [h1] at c1 r1
        rw [h2] at c2 r2
        obtain ⟨l1, l1a, l1b, l1c⟩ := r1.ints
        obtain ⟨l2, l2a, l2b, l2c⟩ := r2.ints
        unfold maxLen at l1b l2b
        obtain ⟨s1, hs1⟩ : ∃ s1, s1 = a[i].2 := ⟨_, rfl⟩
        obtain ⟨s2, hs2⟩ : ∃ s2, s2 = b[i].2 := ⟨_, rfl⟩
        rw [← hs1] at r1 l1 l1c
        rw [← hs2] at r2 l2 l2c
        have HS : Hid (s1 = a[i].2 ∧ s2 = b[i].2) := ⟨hs1, hs2⟩
        have HC : Hid (Wo.cell? ⟨ba, oa + i, none⟩ = some (.slice x1 m1 y1) ∧ Wo.cell? ⟨bb, ob + i, none⟩ = some (.slice x2 m2 y2)) := ⟨c1, c2⟩
        have HM : Hid (m1 = s1.length ∧ m2 = s2.length) := ⟨l1, l2⟩
        have H1 : Hid (Rds Wo (.slice x1 m1 y1) (iv s1)) := r1
        have H2 : Hid (Rds Wo (.slice x2 m2 y2) (iv s2)) := r2
        clear ra rb k1 k2 kc1 kc2 r1 r2 h1 h2 hs1 hs2 l1 l2 l1c l2c
        by_cases hm : m1 = m2
        · have hmz : ((m1 : Int) == (m2 : Int)) = true := by rw [beq_iff_eq]; omega
          have hmb : ((m1 : Int) != (m2 : Int)) = false := by unfold bne; rw [hmz]; rfl
          subst hm
          go_wp2_with fail
          go_quiet (fail)
          go_wp2_with fail
          clear c1 c2
          go_loopg [6] m1 (fun kx v6 wq => ∃ k : Nat, v6 = .int .i64 k ∧ k ≤ m1 ∧ m1 - k ≤ kx ∧ Hid (∀ j, j < k → s1.getD j 0 = s2.getD j 0) ∧ Hid (Grows Wo wq))
          case atStart => exact ⟨0, rfl, by omega, Nat.le_refl _, (fun _ h => by omega), Grows.drewN _ _⟩
          case round =>
            obtain ⟨k, rfl, hk, hky, HK, HQ⟩ := hrel
            obtain ⟨c1, c2⟩ := HC.out
            rw [← (Grows.below HQ.out).cell (World.block_lt_of_cell? _ _ c1)] at c1
            rw [← (Grows.below HQ.out).cell (World.block_lt_of_cell? _ _ c2)] at c2
            by_cases hkl : k < m1
            · have hklz : (k : Int) < (m1 : Int) := by omega
              obtain ⟨-, -, -, k1⟩ := (H1.out.below (Grows.below HQ.out)).ints
              obtain ⟨-, -, -, k2⟩ := (H2.out.below (Grows.below HQ.out)).ints
              obtain ⟨b1, o1, rfl, d1⟩ := k1 (by have := HM.out; omega)
              obtain ⟨b2, o2, rfl, d2⟩ := k2 (by have := HM.out; omega)
              have e1 := d1 k (by have := HM.out; omega)
              have e2 := d2 k (by have := HM.out; omega)
              obtain ⟨u1, hu1⟩ : ∃ u1, u1 = s1.getD k 0 := ⟨_, rfl⟩
              obtain ⟨u2, hu2⟩ : ∃ u2, u2 = s2.getD k 0 := ⟨_, rfl⟩
              rw [← hu1] at e1
              rw [← hu2] at e2
              have HU : Hid (u1 = s1.getD k 0 ∧ u2 = s2.getD k 0) := ⟨hu1, hu2⟩
              clear k1 k2 d1 d2 hu1 hu2
              by_cases hu : u1 = u2
              · have huz : (u1 == u2) = true := by rw [beq_iff_eq]; exact hu
                have hub : (u1 != u2) = false := by unfold bne; rw [huz]; rfl
                have HUE : Hid (s1.getD k 0 = s2.getD k 0) := by show _ = _; rw [← HU.out.1, ← HU.out.2]; exact hu
                subst hu
                go_wp2_with fail
                go_quiet (fail)
                go_wp2_with fail
                go_roundg (m1 - (k + 1))
                case measure => omega
                case rel => exact ⟨k + 1, by go_num, by omega, Nat.le_refl _, (fun j hj => by rcases Nat.lt_or_eq_of_le (Nat.le_of_lt_succ hj) with h | rfl; exact HK.out j h; exact HUE.out), Grows.trans HQ.out (Grows.drewN _ _)⟩
              · have huz : (u1 == u2) = false := by rw [beq_eq_false_iff_ne]; exact hu
                have hub : (u1 != u2) = true := by unfold bne; rw [huz]; rfl
                have HF : Hid (¬ snds a = snds b) := snds_ne hia hib (fun e => hu (by have h1 := HU.out; have h2 := HS.out; rw [h1.1, h1.2, h2.1, h2.2, e]))
                go_wp2_with fail
                go_quiet (fail)
                go_wp2_with fail
                go_ret
                exact ⟨by rw [decide_eq_false HF.out]; rfl, Grows.trans HG.out (Grows.trans HQ.out (Grows.drewN _ _))⟩
            · have hklz : ¬ (k : Int) < (m1 : Int) := by omega
              have HSE : Hid (a[i].2 = b[i].2) := by
                show _ = _
                have h1 := HM.out
                have h2 := HS.out
                rw [← h2.1, ← h2.2]
                apply List.ext_getElem (by omega)
                intro j j1 j2
                have := HK.out j (by omega)
                simpa [j1, j2] using this
              go_wp2_with fail
              go_roundg (na - (i + 1))
              case measure => omega
              case rel => exact ⟨i + 1, by go_num, by omega, Nat.le_refl _, (fun j h1 h2 hj => by rcases Nat.lt_or_eq_of_le (Nat.le_of_lt_succ hj) with h | rfl; exact HR.out j h1 h2 h; exact HSE.out), Grows.trans HG.out HQ.out⟩
        · have hmz : ((m1 : Int) == (m2 : Int)) = false := by rw [beq_eq_false_iff_ne]; omega
          have hmb : ((m1 : Int) != (m2 : Int)) = true := by unfold bne; rw [hmz]; rfl
          have HF : Hid (¬ snds a = snds b) := snds_ne hia hib (fun e => hm (by have h1 := HM.out; have h2 := HS.out; rw [h1.1, h1.2, h2.1, h2.2, e]))
          go_wp2_with fail
          go_quiet (fail)
          go_wp2_with fail
          go_ret
          exact ⟨by rw [decide_eq_false HF.out]; rfl, Grows.trans HG.out (Grows.drewN _ _)⟩
      · have hltz : ¬ (i : Int) < (na : Int) := by omega
        have HF : Hid (snds a = snds b) := snds_ext HE.out fun j h1 h2 => HR.out j h1 h2 (by have := HL.out; omega)
        go_wp2_with fail
        go_ret
        exact ⟨by rw [decide_eq_true HF.out]; rfl, HG.out⟩
  · have hnz : ((na : Int) == (nb : Int)) = false := by rw [beq_eq_false_iff_ne]; omega
    have hnb : ((na : Int) != (nb : Int)) = true := by unfold bne; rw [hnz]; rfl
    have HF : Hid (¬ snds a = snds b) := fun e => hne (by have h1 := congrArg List.length e; simp only [snds, List.length_map] at h1; omega)
    clear ha hb ea eb
    go_enter Tryd.func8, Tryd.ntmps8
    go_wp2_with fail
    go_ret
    exact ⟨by rw [decide_eq_false HF.out]; rfl, Grows.refl _⟩
end Go.Proofs.YtiiihjihegilnaaDoor
