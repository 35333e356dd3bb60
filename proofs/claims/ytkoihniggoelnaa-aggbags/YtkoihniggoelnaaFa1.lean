/- What the texts of fact hold, over this program's numbers. -/
import Derived.Test.YtkoihniggoelnaaFa0
namespace Go.Proofs.Ytkoihniggoelnaa.Fa
open Go.RowKit Go.Sort

set_option maxHeartbeats 4000000 in
theorem refcmp_any (w : World) (a b : Fc) (ha : a.Ok w) (hb : b.Ok w) :
    Calls Try.prog 34 #[.agg #[.int .i64 a.t, a.dv, a.mv], .agg #[.int .i64 b.t, b.dv, b.mv]] w fun e w' => e = .returned (.int .i64 (cmpF a.ft b.ft)) ∧ Grows w w' := by
  obtain ⟨W, hW⟩ : ∃ W, W = (w.alloc (.cells #[.int .i64 a.t, a.dv, a.mv] 47)).alloc (.cells #[.int .i64 b.t, b.dv, b.mv] 47) := ⟨_, rfl⟩
  have gW : Grows w W := by rw [hW]; exact (Grows.alloc _ _).trans (Grows.alloc _ _)
  have ka := ha.below gW.below
  have kb := hb.below gW.below
  obtain ⟨aD, nD, cD, hD⟩ := ha.rd.sl
  obtain ⟨aM, nM, cM, hM⟩ := ha.rm.sl
  obtain ⟨aE, nE, cE, hE⟩ := hb.rd.sl
  obtain ⟨aG, nG, cG, hG⟩ := hb.rm.sl
  have r1 := ka.rd
  have r2 := kb.rd
  have r3 := ka.rm
  have r4 := kb.rm
  rw [hD] at r1
  rw [hE] at r2
  rw [hM] at r3
  rw [hG] at r4
  obtain ⟨l1, l1a, l1b, l1c⟩ := r1.cells
  obtain ⟨l2, l2a, l2b, l2c⟩ := r2.cells
  obtain ⟨l3, l3a, l3b, l3c⟩ := r3.cells
  obtain ⟨l4, l4a, l4b, l4c⟩ := r4.cells
  rw [sv_length] at l1 l1a l1c l2 l2a l2c
  rw [iv_length] at l3 l3a l3c l4 l4a l4c
  rw [← l1] at l1a l1c
  rw [← l2] at l2a l2c
  rw [← l3] at l3a l3c
  rw [← l4] at l4a l4c
  unfold maxLen at l1b l2b l3b l4b
  have R1 : Aside _ := l1c
  have R2 : Aside _ := l2c
  have R3 : Aside _ := l3c
  have R4 : Aside _ := l4c
  have HN : Hid (nD = a.ds.length ∧ nE = b.ds.length ∧ nM = a.ms.length ∧ nG = b.ms.length) := ⟨l1, l2, l3, l4⟩
  have hbox : ∀ w5, (∃ Q, w5 = W.drewN Q) → (w5.cell? ⟨w.heap.size, 0, none⟩ = some (.int .i64 a.t) ∧ w5.cell? ⟨w.heap.size, 1, none⟩ = some (.slice aD nD cD) ∧ w5.cell? ⟨w.heap.size, 2, none⟩ = some (.slice aM nM cM)) ∧ w5.cell? ⟨w.heap.size + 1, 0, none⟩ = some (.int .i64 b.t) ∧ w5.cell? ⟨w.heap.size + 1, 1, none⟩ = some (.slice aE nE cE) ∧ w5.cell? ⟨w.heap.size + 1, 2, none⟩ = some (.slice aG nG cG) := by
    rintro w5 ⟨Q, rfl⟩
    have e : ∀ p, (W.drewN Q).cell? p = W.cell? p := fun p => rfl
    simp only [hW, hD, hM, hE, hG]
    refine ⟨⟨?_, ?_, ?_⟩, ?_, ?_, ?_⟩ <;> simp
  have HBX : Aside _ := hbox
  have gr : ∀ w5, (∃ Q, w5 = W.drewN Q) → Grows w w5 := by
    rintro w5 ⟨Q, rfl⟩
    exact gW.trans (Grows.drewN _ _)
  have GR : Aside _ := gr
  have FT : Hid (cmpF a.ft b.ft = if a.t = b.t then (if cmpR cmpS a.ds b.ds = 0 then cmpR cmpI a.ms b.ms else cmpR cmpS a.ds b.ds) else cmpI a.t b.t) := rfl
  have HW : Hid (W.drewN 0 = (w.alloc (.cells #[.int .i64 a.t, .slice aD nD cD, .slice aM nM cM] 47)).alloc (.cells #[.int .i64 b.t, .slice aE nE cE, .slice aG nG cG] 47)) := by
    show W = _
    rw [hW, hD, hM, hE, hG]
  rw [hD, hM, hE, hG]
  clear ha hb ka kb r1 r2 r3 r4 l1c l2c l3c l4c hbox gr gW hW hD hM hE hG l1 l2 l3 l4
  rcases Int.lt_trichotomy a.t b.t with h | h | h
  · have HTT : Hid (cmpF a.ft b.ft = -1) := by show _ = _; rw [FT.out, if_neg (by omega)]; unfold cmpI; rw [if_pos h]
    go_enter Try.func34, Try.ntmps34
    go_wp2_with fail
    go_ret
    exact ⟨by rw [HTT.out]; rfl, by rw [← HW.out]; exact GR.out _ ⟨0, rfl⟩⟩
  · have h1 : ¬ a.t < b.t := by omega
    have h2 : ¬ b.t < a.t := by omega
    have HTT : Hid (a.t = b.t) := h
    clear h
    go_enter Try.func34, Try.ntmps34
    go_wp2_with fail
    go_loopg [5] (nD + nE) (fun kx vi wr => ∃ i Q : Nat, vi = .int .i64 i ∧ i ≤ nD ∧ i ≤ nE ∧ nD + nE - i ≤ kx ∧ Hid (wr = W.drewN Q) ∧ Hid (∀ j, j < i → cmpS (a.ds.getD j []) (b.ds.getD j []) = 0))
    case atStart => exact ⟨0, 0, rfl, Nat.zero_le _, Nat.zero_le _, by omega, HW.out.symm, fun j hj => by omega⟩
    case round =>
      obtain ⟨i, Q, rfl, hi1, hi2, hkx, HWQ, HI⟩ := hrel
      obtain ⟨⟨x0, x1, x2⟩, y0, y1, y2⟩ := HBX.out wr ⟨Q, HWQ.out⟩
      by_cases ha : i < nD
      · have haz : (i : Int) < (nD : Int) := by omega
        have haz' : ¬ (nD : Int) ≤ (i : Int) := by omega
        by_cases hb : i < nE
        · have hbz : (i : Int) < (nE : Int) := by omega
          have hbz' : ¬ (nE : Int) ≤ (i : Int) := by omega
          have hia : i < a.ds.length := by have := HN.out; omega
          have hib : i < b.ds.length := by have := HN.out; omega
          obtain ⟨b1, o1, e1, c1⟩ := R1.out (by omega)
          obtain ⟨b2, o2, e2, c2⟩ := R2.out (by omega)
          subst e1 e2
          have r1 := c1 i _ (sv_get a.ds i hia)
          have r2 := c2 i _ (sv_get b.ds i hib)
          rw [show W.cell? ⟨b1, o1 + i, none⟩ = wr.cell? ⟨b1, o1 + i, none⟩ by rw [HWQ.out]; rfl] at r1
          rw [show W.cell? ⟨b2, o2 + i, none⟩ = wr.cell? ⟨b2, o2 + i, none⟩ by rw [HWQ.out]; rfl] at r2
          obtain ⟨x, hx⟩ : ∃ x, x = a.ds.getD i [] := ⟨_, rfl⟩
          obtain ⟨y, hy⟩ : ∃ y, y = b.ds.getD i [] := ⟨_, rfl⟩
          rw [← hx] at r1
          rw [← hy] at r2
          have HX : Hid (x = a.ds.getD i [] ∧ y = b.ds.getD i []) := ⟨hx, hy⟩
          have tx := str_toList x
          have ty := str_toList y
          clear hx hy c1 c2
          by_cases hxy : x < y
          · have hb1 : Op.bytesLess x y = true := by rw [bytesLess_eq]; exact decide_eq_true hxy
            have HR : Hid (cmpR cmpS a.ds b.ds = -1) := by
              have := cmpR_at cmpS_ord a.ds b.ds i hia hib (fun j k1 k2 hj => by have := HI.out j hj; simpa [k1, k2] using this) (by rw [show a.ds[i] = x by rw [HX.out.1]; simp [hia], show b.ds[i] = y by rw [HX.out.2]; simp [hib]]; unfold cmpS; rw [if_pos hxy]; decide)
              show _ = _
              rw [this, show a.ds[i] = x by rw [HX.out.1]; simp [hia], show b.ds[i] = y by rw [HX.out.2]; simp [hib]]
              unfold cmpS
              rw [if_pos hxy]
            clear hxy
            go_wp2_with fail
            go_quiet (fail)
            go_wp2_with fail
            go_ret
            exact ⟨by rw [FT.out, if_pos HTT.out, if_neg (by rw [HR.out]; decide), HR.out]; rfl, GR.out _ ⟨_, by rw [HWQ.out]; first | exact World.drewN_drewN _ _ _ | (rw [World.drewN_drewN, World.drewN_drewN])⟩⟩
          · have hb1 : Op.bytesLess x y = false := by rw [bytesLess_eq]; exact decide_eq_false hxy
            by_cases hyx : y < x
            · have hb2 : (x == y) = false := beq_eq_false_iff_ne.2 fun k => lt_irr x (by rw [k] at hyx ⊢; exact hyx)
              have HR : Hid (cmpR cmpS a.ds b.ds = 1) := by
                have := cmpR_at cmpS_ord a.ds b.ds i hia hib (fun j k1 k2 hj => by have := HI.out j hj; simpa [k1, k2] using this) (by rw [show a.ds[i] = x by rw [HX.out.1]; simp [hia], show b.ds[i] = y by rw [HX.out.2]; simp [hib]]; unfold cmpS; rw [if_neg hxy, if_pos hyx]; decide)
                show _ = _
                rw [this, show a.ds[i] = x by rw [HX.out.1]; simp [hia], show b.ds[i] = y by rw [HX.out.2]; simp [hib]]
                unfold cmpS
                rw [if_neg hxy, if_pos hyx]
              clear hxy hyx
              go_wp2_with fail
              go_quiet (fail)
              go_wp2_with fail
              go_quiet (fail)
              go_wp2_with fail
              go_ret
              exact ⟨by rw [FT.out, if_pos HTT.out, if_neg (by rw [HR.out]; decide), HR.out]; rfl, GR.out _ ⟨_, by rw [HWQ.out]; first | exact World.drewN_drewN _ _ _ | (rw [World.drewN_drewN, World.drewN_drewN])⟩⟩
            · have hb2 : (x == y) = true := by rw [eq_of_not hxy hyx]; exact beq_self_eq_true y
              have HE : Hid (x = y) := eq_of_not hxy hyx
              clear hxy hyx
              go_wp2_with fail
              go_quiet (fail)
              have hn1 : Hid (nq = nq) := rfl
              generalize nq = nq1 at *
              go_wp2_with fail
              go_quiet (fail)
              go_wp2_with fail
              go_roundg (nD + nE - (i + 1))
              case measure => omega
              case rel =>
                refine ⟨i + 1, Q + nq1 + nq, by go_num, by omega, by omega, by omega, ?_, fun j hj => ?_⟩
                · show _ = _
                  rw [HWQ.out]
                  simp only [World.drewN_drewN, Nat.add_assoc]
                · by_cases hji : j = i
                  · subst hji
                    rw [← HX.out.1, ← HX.out.2, HE.out]
                    exact cmpS_ord.refl _
                  · exact HI.out j (by omega)
        · have hbz : ¬ (i : Int) < (nE : Int) := by omega
          have hbz' : (nE : Int) ≤ (i : Int) := by omega
          have HR : Hid (cmpR cmpS a.ds b.ds = 1) := by
            have := cmpR_len cmpS_ord a.ds b.ds fun j h1 h2 => by have := HI.out j (by have := HN.out; omega); simpa [h1, h2] using this
            show _ = _
            rw [this]; unfold cmpI
            have := HN.out
            rw [if_neg (by omega), if_pos (by omega)]
          go_wp2_with fail
          go_ret
          exact ⟨by rw [FT.out, if_pos HTT.out, if_neg (by rw [HR.out]; decide), HR.out]; rfl, GR.out _ ⟨Q, HWQ.out⟩⟩
      · have haz : ¬ (i : Int) < (nD : Int) := by omega
        have haz' : (nD : Int) ≤ (i : Int) := by omega
        by_cases hb : i < nE
        · have hbz : (i : Int) < (nE : Int) := by omega
          have hbz' : ¬ (nE : Int) ≤ (i : Int) := by omega
          have HR : Hid (cmpR cmpS a.ds b.ds = -1) := by
            have := cmpR_len cmpS_ord a.ds b.ds fun j h1 h2 => by have := HI.out j (by have := HN.out; omega); simpa [h1, h2] using this
            show _ = _
            rw [this]; unfold cmpI
            have := HN.out
            rw [if_pos (by omega)]
          go_wp2_with fail
          go_ret
          exact ⟨by rw [FT.out, if_pos HTT.out, if_neg (by rw [HR.out]; decide), HR.out]; rfl, GR.out _ ⟨Q, HWQ.out⟩⟩
        · have hbz : ¬ (i : Int) < (nE : Int) := by omega
          have hbz' : (nE : Int) ≤ (i : Int) := by omega
          have HR : Hid (cmpR cmpS a.ds b.ds = 0) := by
            have := cmpR_len cmpS_ord a.ds b.ds fun j h1 h2 => by have := HI.out j (by have := HN.out; omega); simpa [h1, h2] using this
            show _ = _
            rw [this]; unfold cmpI
            have := HN.out
            rw [if_neg (by omega), if_neg (by omega)]
          clear HI
          have HRD : Hid (cmpR cmpS a.ds b.ds = 0) := HR.out
          clear HR
          go_wp2_with fail
          go_loopg [6] (nM + nG) (fun kx vi wr => ∃ i Q : Nat, vi = .int .i64 i ∧ i ≤ nM ∧ i ≤ nG ∧ nM + nG - i ≤ kx ∧ Hid (wr = W.drewN Q) ∧ Hid (∀ j, j < i → cmpI (a.ms.getD j 0) (b.ms.getD j 0) = 0))
          case atStart => exact ⟨0, Q, rfl, Nat.zero_le _, Nat.zero_le _, by omega, HWQ.out, fun j hj => by omega⟩
          case round =>
            clear HWQ hi1 hi2 hkx ha hb haz haz' hbz hbz' x0 x1 x2 y0 y1 y2
            obtain ⟨i, Q, rfl, hi1, hi2, hkx, HWQ, HI⟩ := hrel
            obtain ⟨⟨x0, x1, x2⟩, y0, y1, y2⟩ := HBX.out wr ⟨Q, HWQ.out⟩
            by_cases ha : i < nM
            · have haz : (i : Int) < (nM : Int) := by omega
              have haz' : ¬ (nM : Int) ≤ (i : Int) := by omega
              by_cases hb : i < nG
              · have hbz : (i : Int) < (nG : Int) := by omega
                have hbz' : ¬ (nG : Int) ≤ (i : Int) := by omega
                have hia : i < a.ms.length := by have := HN.out; omega
                have hib : i < b.ms.length := by have := HN.out; omega
                obtain ⟨b1, o1, e1, c1⟩ := R3.out (by omega)
                obtain ⟨b2, o2, e2, c2⟩ := R4.out (by omega)
                subst e1 e2
                have r1 := c1 i _ (iv_get a.ms i hia)
                have r2 := c2 i _ (iv_get b.ms i hib)
                rw [show W.cell? ⟨b1, o1 + i, none⟩ = wr.cell? ⟨b1, o1 + i, none⟩ by rw [HWQ.out]; rfl] at r1
                rw [show W.cell? ⟨b2, o2 + i, none⟩ = wr.cell? ⟨b2, o2 + i, none⟩ by rw [HWQ.out]; rfl] at r2
                obtain ⟨x, hx⟩ : ∃ x, x = a.ms.getD i 0 := ⟨_, rfl⟩
                obtain ⟨y, hy⟩ : ∃ y, y = b.ms.getD i 0 := ⟨_, rfl⟩
                rw [← hx] at r1
                rw [← hy] at r2
                have HX : Hid (x = a.ms.getD i 0 ∧ y = b.ms.getD i 0) := ⟨hx, hy⟩
                clear hx hy c1 c2
                by_cases hxy : x < y
                · have hb1 : x < y := hxy
                  have HR : Hid (cmpR cmpI a.ms b.ms = -1) := by
                    have := cmpR_at cmpI_ord a.ms b.ms i hia hib (fun j k1 k2 hj => by have := HI.out j hj; simpa [k1, k2] using this) (by rw [show a.ms[i] = x by rw [HX.out.1]; simp [hia], show b.ms[i] = y by rw [HX.out.2]; simp [hib]]; unfold cmpI; rw [if_pos hxy]; decide)
                    show _ = _
                    rw [this, show a.ms[i] = x by rw [HX.out.1]; simp [hia], show b.ms[i] = y by rw [HX.out.2]; simp [hib]]
                    unfold cmpI
                    rw [if_pos hxy]
                  clear hxy
                  go_wp2_with fail
                  go_quiet (fail)
                  go_wp2_with fail
                  go_ret
                  exact ⟨by rw [FT.out, if_pos HTT.out, if_pos HRD.out, HR.out]; rfl, GR.out _ ⟨_, by rw [HWQ.out]; first | exact World.drewN_drewN _ _ _ | (rw [World.drewN_drewN, World.drewN_drewN])⟩⟩
                · have hb1 : ¬ x < y := hxy
                  by_cases hyx : y < x
                  · have hb2 : y < x := hyx
                    have HR : Hid (cmpR cmpI a.ms b.ms = 1) := by
                      have := cmpR_at cmpI_ord a.ms b.ms i hia hib (fun j k1 k2 hj => by have := HI.out j hj; simpa [k1, k2] using this) (by rw [show a.ms[i] = x by rw [HX.out.1]; simp [hia], show b.ms[i] = y by rw [HX.out.2]; simp [hib]]; unfold cmpI; rw [if_neg hxy, if_pos hyx]; decide)
                      show _ = _
                      rw [this, show a.ms[i] = x by rw [HX.out.1]; simp [hia], show b.ms[i] = y by rw [HX.out.2]; simp [hib]]
                      unfold cmpI
                      rw [if_neg hxy, if_pos hyx]
                    clear hxy hyx
                    go_wp2_with fail
                    go_quiet (fail)
                    go_wp2_with fail
                    go_quiet (fail)
                    go_wp2_with fail
                    go_ret
                    exact ⟨by rw [FT.out, if_pos HTT.out, if_pos HRD.out, HR.out]; rfl, GR.out _ ⟨_, by rw [HWQ.out]; first | exact World.drewN_drewN _ _ _ | (rw [World.drewN_drewN, World.drewN_drewN])⟩⟩
                  · have hb2 : ¬ y < x := hyx
                    have HE : Hid (x = y) := by show x = y; omega
                    clear hxy hyx
                    go_wp2_with fail
                    go_quiet (fail)
                    have hn1 : Hid (nq = nq) := rfl
                    generalize nq = nq1 at *
                    go_wp2_with fail
                    go_quiet (fail)
                    go_wp2_with fail
                    go_roundg (nM + nG - (i + 1))
                    case measure => omega
                    case rel =>
                      refine ⟨i + 1, Q + nq1 + nq, by go_num, by omega, by omega, by omega, ?_, fun j hj => ?_⟩
                      · show _ = _
                        rw [HWQ.out]
                        simp only [World.drewN_drewN, Nat.add_assoc]
                      · by_cases hji : j = i
                        · subst hji
                          rw [← HX.out.1, ← HX.out.2, HE.out]
                          exact cmpI_ord.refl _
                        · exact HI.out j (by omega)
              · have hbz : ¬ (i : Int) < (nG : Int) := by omega
                have hbz' : (nG : Int) ≤ (i : Int) := by omega
                have HR : Hid (cmpR cmpI a.ms b.ms = 1) := by
                  have := cmpR_len cmpI_ord a.ms b.ms fun j h1 h2 => by have := HI.out j (by have := HN.out; omega); simpa [h1, h2] using this
                  show _ = _
                  rw [this]; unfold cmpI
                  have := HN.out
                  rw [if_neg (by omega), if_pos (by omega)]
                go_wp2_with fail
                go_ret
                exact ⟨by rw [FT.out, if_pos HTT.out, if_pos HRD.out, HR.out]; rfl, GR.out _ ⟨Q, HWQ.out⟩⟩
            · have haz : ¬ (i : Int) < (nM : Int) := by omega
              have haz' : (nM : Int) ≤ (i : Int) := by omega
              by_cases hb : i < nG
              · have hbz : (i : Int) < (nG : Int) := by omega
                have hbz' : ¬ (nG : Int) ≤ (i : Int) := by omega
                have HR : Hid (cmpR cmpI a.ms b.ms = -1) := by
                  have := cmpR_len cmpI_ord a.ms b.ms fun j h1 h2 => by have := HI.out j (by have := HN.out; omega); simpa [h1, h2] using this
                  show _ = _
                  rw [this]; unfold cmpI
                  have := HN.out
                  rw [if_pos (by omega)]
                go_wp2_with fail
                go_ret
                exact ⟨by rw [FT.out, if_pos HTT.out, if_pos HRD.out, HR.out]; rfl, GR.out _ ⟨Q, HWQ.out⟩⟩
              · have hbz : ¬ (i : Int) < (nG : Int) := by omega
                have hbz' : (nG : Int) ≤ (i : Int) := by omega
                have HR : Hid (cmpR cmpI a.ms b.ms = 0) := by
                  have := cmpR_len cmpI_ord a.ms b.ms fun j h1 h2 => by have := HI.out j (by have := HN.out; omega); simpa [h1, h2] using this
                  show _ = _
                  rw [this]; unfold cmpI
                  have := HN.out
                  rw [if_neg (by omega), if_neg (by omega)]
                clear HI
                go_wp2_with fail
                go_ret
                exact ⟨by rw [FT.out, if_pos HTT.out, if_pos HRD.out, HR.out]; rfl, GR.out _ ⟨Q, HWQ.out⟩⟩
  · have HTT : Hid (cmpF a.ft b.ft = 1) := by show _ = _; rw [FT.out, if_neg (by omega)]; unfold cmpI; rw [if_neg (by omega), if_pos h]
    have h1 : ¬ a.t < b.t := by omega
    go_enter Try.func34, Try.ntmps34
    go_wp2_with fail
    go_ret
    exact ⟨by rw [HTT.out]; rfl, by rw [← HW.out]; exact GR.out _ ⟨0, rfl⟩⟩
/-- A fact, so often, put into a rising row. -/
def putL : List En → Fc → Nat → List En
  | [], f, n => [⟨f, n⟩]
  | e :: l, f, n => if cmpF e.f.ft f.ft < 0 then e :: putL l f n else if cmpF e.f.ft f.ft = 0 then ⟨f, (e.n + n) % two64⟩ :: l else ⟨f, n⟩ :: e :: l
theorem putL_end : ∀ (l : List En) (f : Fc) (n : Nat), (∀ j, j < l.length → cmpF (l.getD j en0).f.ft f.ft < 0) → putL l f n = l ++ [⟨f, n⟩]
  | [], _, _, _ => rfl
  | e :: l, f, n, h => by
    have h0 := h 0 (by simp)
    simp only [List.getD_cons_zero] at h0
    rw [putL, if_pos h0, putL_end l f n fun j hj => by have := h (j + 1) (by simpa using hj); simpa using this]
    rfl
theorem putL_eq : ∀ (l : List En) (f : Fc) (n k : Nat), k < l.length → (∀ j, j < k → cmpF (l.getD j en0).f.ft f.ft < 0) → cmpF (l.getD k en0).f.ft f.ft = 0 →
    putL l f n = l.take k ++ [⟨f, ((l.getD k en0).n + n) % two64⟩] ++ l.drop (k + 1)
  | e :: l, f, n, 0, _, _, hc => by
    simp only [List.getD_cons_zero] at hc
    rw [putL, if_neg (by omega), if_pos hc]
    rfl
  | e :: l, f, n, k + 1, hk, h, hc => by
    have h0 := h 0 (by omega)
    simp only [List.getD_cons_zero] at h0
    simp only [List.getD_cons_succ] at hc
    rw [putL, if_pos h0, putL_eq l f n k (by simpa using hk) (fun j hj => by have := h (j + 1) (by omega); simpa using this) hc]
    rfl
theorem putL_gt : ∀ (l : List En) (f : Fc) (n k : Nat), k < l.length → (∀ j, j < k → cmpF (l.getD j en0).f.ft f.ft < 0) → ¬ cmpF (l.getD k en0).f.ft f.ft < 0 → cmpF (l.getD k en0).f.ft f.ft ≠ 0 →
    putL l f n = l.take k ++ [⟨f, n⟩] ++ l.drop k
  | e :: l, f, n, 0, _, _, hc, hd => by
    simp only [List.getD_cons_zero] at hc hd
    rw [putL, if_neg hc, if_neg hd]
    rfl
  | e :: l, f, n, k + 1, hk, h, hc, hd => by
    have h0 := h 0 (by omega)
    simp only [List.getD_cons_zero] at h0
    simp only [List.getD_cons_succ] at hc hd
    rw [putL, if_pos h0, putL_gt l f n k (by simpa using hk) (fun j hj => by have := h (j + 1) (by omega); simpa using this) hc hd]
    rfl
theorem putL_len : ∀ (l : List En) (f : Fc) (n : Nat), (putL l f n).length ≤ l.length + 1
  | [], _, _ => by simp [putL]
  | e :: l, f, n => by
    have := putL_len l f n
    rw [putL]
    split
    · simp; omega
    · split <;> simp

def putR : List Row → Row → List Row
  | [], r => [r]
  | e :: l, r => if cmpF e.1 r.1 < 0 then e :: putR l r else if cmpF e.1 r.1 = 0 then (r.1, (e.2 + r.2) % two64) :: l else r :: e :: l
theorem rows_cons (e : En) (l : List En) : rows (e :: l) = e.row :: rows l := rfl
theorem rows_putL : ∀ (l : List En) (f : Fc) (n : Nat), rows (putL l f n) = putR (rows l) (f.ft, n)
  | [], _, _ => rfl
  | e :: l, f, n => by
    rw [putL, rows_cons, putR]
    show _ = if cmpF e.f.ft f.ft < 0 then _ else if cmpF e.f.ft f.ft = 0 then _ else _
    split
    · rw [rows_cons, rows_putL l f n]
    · split <;> rfl
/-- Rows that rise, with numbers that may be, 0 too. -/
structure Rs (b : List Row) : Prop where
  ris : b.Pairwise fun x y => cmpF x.1 y.1 < 0
  lt : ∀ r ∈ b, r.2 < two64
theorem putR_mem : ∀ (l : List Row) (r x : Row), x ∈ putR l r → x.1 = r.1 ∨ x ∈ l
  | [], r, x, h => by simp only [putR, List.mem_singleton] at h; exact .inl (by rw [h])
  | e :: l, r, x, h => by
    rw [putR] at h
    split at h
    · rcases List.mem_cons.1 h with h | h
      · exact .inr (by rw [h]; simp)
      · rcases putR_mem l r x h with h | h
        · exact .inl h
        · exact .inr (by simp [h])
    · split at h
      · rcases List.mem_cons.1 h with h | h
        · exact .inl (by rw [h])
        · exact .inr (by simp [h])
      · rcases List.mem_cons.1 h with h | h
        · exact .inl (by rw [h])
        · exact .inr h
theorem putR_lt : ∀ (l : List Row) (r : Row), (∀ x ∈ l, x.2 < two64) → r.2 < two64 → ∀ x ∈ putR l r, x.2 < two64
  | [], r, _, hr, x, h => by simp only [putR, List.mem_singleton] at h; rw [h]; exact hr
  | e :: l, r, hl, hr, x, h => by
    rw [putR] at h
    split at h
    · rcases List.mem_cons.1 h with h | h
      · exact hl x (by rw [h]; simp)
      · exact putR_lt l r (fun y hy => hl y (by simp [hy])) hr x h
    · split at h
      · rcases List.mem_cons.1 h with h | h
        · rw [h]; exact Nat.mod_lt _ (by decide)
        · exact hl x (by simp [h])
      · rcases List.mem_cons.1 h with h | h
        · rw [h]; exact hr
        · exact hl x h
theorem putR_ris : ∀ (l : List Row) (r : Row), (l.Pairwise fun x y => cmpF x.1 y.1 < 0) → (putR l r).Pairwise fun x y => cmpF x.1 y.1 < 0
  | [], r, _ => by simp [putR]
  | e :: l, r, h => by
    obtain ⟨h1, h2⟩ := List.pairwise_cons.1 h
    rw [putR]
    split
    case isTrue hlt =>
      refine List.pairwise_cons.2 ⟨fun x hx => ?_, putR_ris l r h2⟩
      rcases putR_mem l r x hx with h | h
      · rw [h]; exact hlt
      · exact h1 x h
    case isFalse hlt =>
      split
      case isTrue heq =>
        have he : e.1 = r.1 := (cmpF_ord.eq _ _).1 heq
        refine List.pairwise_cons.2 ⟨fun x hx => ?_, h2⟩
        show cmpF r.1 x.1 < 0
        rw [← he]; exact h1 x hx
      case isFalse hne =>
        have hgt : cmpF r.1 e.1 < 0 := by
          apply Classical.byContradiction
          intro hn
          exact hne ((cmpF_ord.eq _ _).2 (cmpF_ord.pos hlt hn))
        refine List.pairwise_cons.2 ⟨fun x hx => ?_, h⟩
        rcases List.mem_cons.1 hx with h | h
        · rw [h]; exact hgt
        · exact cmpF_ord.tr _ _ _ hgt (h1 x h)
theorem Rs.put {l : List Row} {r : Row} (h : Rs l) (hr : r.2 < two64) : Rs (putR l r) := ⟨putR_ris l r h.ris, putR_lt l r h.lt hr⟩
theorem putR_cnt : ∀ (l : List Row) (r : Row) (g : Ft), cntR (putR l r) g % two64 = (cntR l g + (if r.1 = g then r.2 else 0)) % two64
  | [], r, g => by simp [putR, cntR]
  | e :: l, r, g => by
    rw [putR]
    split
    · have ih := putR_cnt l r g
      rw [cntR_cons, cntR_cons, Nat.add_mod, ih, ← Nat.add_mod, Nat.add_assoc]
    · split
      case isTrue heq =>
        have he : e.1 = r.1 := (cmpF_ord.eq _ _).1 heq
        rw [cntR_cons, cntR_cons, he]
        show ((if r.1 = g then (e.2 + r.2) % two64 else 0) + _) % two64 = _
        by_cases hg : r.1 = g
        · rw [if_pos hg, if_pos hg, if_pos hg, Nat.mod_add_mod]; congr 1; omega
        · rw [if_neg hg, if_neg hg, if_neg hg]; congr 1
      · rw [cntR_cons]; congr 1; omega
theorem fold_put : ∀ (rs : List Row) (b : List Row), Rs b → (∀ r ∈ rs, r.2 < two64) → Rs (rs.foldl putR b) ∧ ∀ g, cntR (rs.foldl putR b) g % two64 = (cntR b g + cntR rs g) % two64
  | [], b, hb, _ => ⟨hb, fun g => by simp [cntR]⟩
  | r :: rs, b, hb, h => by
    obtain ⟨h1, h2⟩ := fold_put rs (putR b r) (hb.put (h r (by simp))) fun x hx => h x (by simp [hx])
    refine ⟨h1, fun g => ?_⟩
    rw [List.foldl_cons, h2 g, Nat.add_mod, putR_cnt, ← Nat.add_mod, cntR_cons, Nat.add_assoc]
theorem cntR_filter (p : Row → Bool) (q : Ft → Bool) (b : List Row) (g : Ft) (h : ∀ r ∈ b, r.1 = g → (p r = q g ∨ r.2 = 0)) : cntR (b.filter p) g = if q g then cntR b g else 0 := by
  induction b with
  | nil => simp [cntR]
  | cons r b ih =>
    have ih := ih fun x hx => h x (by simp [hx])
    rw [List.filter_cons]
    by_cases hg : r.1 = g
    · rcases h r (by simp) hg with h1 | h1
      · rw [h1]
        cases hq : q g
        · rw [hq] at ih; simp only [Bool.false_eq_true, if_false] at ih ⊢; exact ih
        · rw [hq] at ih; simp only [if_true] at ih ⊢; rw [cntR_cons, cntR_cons, ih]
      · cases hp : p r
        · simp only [Bool.false_eq_true, if_false]; rw [ih, cntR_cons, if_pos hg, h1, Nat.zero_add]
        · simp only [if_true]; rw [cntR_cons, ih, cntR_cons, if_pos hg, h1, Nat.zero_add, Nat.zero_add]
    · cases hp : p r
      · simp only [Bool.false_eq_true, if_false]; rw [ih, cntR_cons, if_neg hg, Nat.zero_add]
      · simp only [if_true]; rw [cntR_cons, ih, cntR_cons, if_neg hg, Nat.zero_add, Nat.zero_add]

/-- The rows, put one by one. -/
def putAll (l : List En) : List En := l.foldl (fun b e => putL b e.f e.n) []
theorem rows_foldl : ∀ (l : List En) (b : List En), rows (l.foldl (fun b e => putL b e.f e.n) b) = (rows l).foldl putR (rows b)
  | [], _ => rfl
  | e :: l, b => by rw [List.foldl_cons, rows_foldl l, rows_putL]; rfl
theorem foldl_len : ∀ (l b : List En), (l.foldl (fun b e => putL b e.f e.n) b).length ≤ b.length + l.length
  | [], _ => by simp
  | e :: l, b => by
    have h1 := foldl_len l (putL b e.f e.n)
    have h2 := putL_len b e.f e.n
    rw [List.foldl_cons, List.length_cons]; omega
def ownL (l : List En) : List En := (putAll l).filter fun e => decide (e.n ≠ 0)
theorem ownL_len (l : List En) : (ownL l).length ≤ l.length := by
  have h1 := foldl_len l []
  have h2 := List.length_filter_le (fun e : En => decide (e.n ≠ 0)) (putAll l)
  unfold ownL putAll at *
  simp at h1
  omega
theorem rows_filter (q : Row → Bool) : ∀ l : List En, rows (l.filter fun e => q e.row) = (rows l).filter q
  | [] => rfl
  | e :: l => by
    rw [List.filter_cons, rows_cons, List.filter_cons]
    split
    · rw [rows_cons, rows_filter q l]
    · exact rows_filter q l
theorem Rs.bag {b : List Row} (h : Rs b) : IsBag b (b.filter fun r => decide (r.2 ≠ 0)) := by
  refine ⟨⟨h.ris.filter _, fun r hr => ?_⟩, fun g => ?_⟩
  · obtain ⟨h1, h2⟩ := List.mem_filter.1 hr
    have := of_decide_eq_true h2
    exact ⟨by omega, h.lt r h1⟩
  · rw [cntR_filter _ (fun _ => true) b g fun r _ _ => ?_]
    · rfl
    · by_cases hz : r.2 = 0
      · exact .inr hz
      · exact .inl (by simp [hz])
theorem ownL_bag (l : List En) (h : ∀ e ∈ l, e.n < two64) : IsBag (rows l) (rows (ownL l)) := by
  obtain ⟨h1, h2⟩ := fold_put (rows l) [] ⟨List.Pairwise.nil, fun _ h => by cases h⟩ fun r hr => by
    obtain ⟨e, he, rfl⟩ := List.mem_map.1 hr
    exact h e he
  have h3 : rows (ownL l) = ((rows l).foldl putR []).filter fun r => decide (r.2 ≠ 0) := by
    unfold ownL
    have := rows_filter (fun r => decide (r.2 ≠ 0)) (putAll l)
    rw [show rows (putAll l) = (rows l).foldl putR [] from rows_foldl l []] at this
    exact this
  rw [h3]
  exact h1.bag.ext fun f => by rw [h2 f, cntR_nil, Nat.zero_add]

end Go.Proofs.Ytkoihniggoelnaa.Fa
