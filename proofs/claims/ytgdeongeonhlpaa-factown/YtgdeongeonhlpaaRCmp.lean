/- The contract of the reference's Compare. -/
import Derived.Test.YtgdeongeonhlpaaBag2
namespace Go.Proofs.Ytgdeongeonhlpaa
open Go.RowKit Go.Sort

set_option maxHeartbeats 4000000 in
theorem refcmp_any (w : World) (a b : Fc) (ha : a.Ok w) (hb : b.Ok w) :
    Calls Try.prog 15 #[.agg #[.int .i64 a.t, a.dv, a.mv], .agg #[.int .i64 b.t, b.dv, b.mv]] w fun e w' => e = .returned (.int .i64 (cmpF a.ft b.ft)) ∧ Grows w w' := by
  obtain ⟨W, hW⟩ : ∃ W, W = (w.alloc (.cells #[.int .i64 a.t, a.dv, a.mv] 27)).alloc (.cells #[.int .i64 b.t, b.dv, b.mv] 27) := ⟨_, rfl⟩
  have gW : Grows w W := by rw [hW]; exact (Grows.alloc _ _).trans (Grows.alloc _ _)
  have ka := ha.below gW.below
  have kb := hb.below gW.below
  obtain ⟨aD, nD, cD, hD⟩ := ha.rd.sl
  obtain ⟨aM, nM, cM, hM⟩ := ha.rm.sl
  obtain ⟨aE, nE, cE, hE⟩ := hb.rd.sl
  obtain ⟨aG, nG, cG, hG⟩ := hb.rm.sl
  have r1 := ka.rd
  have r2 := kb.rd
  have r3 := ka.rm
  have r4 := kb.rm
  rw [hD] at r1
  rw [hE] at r2
  rw [hM] at r3
  rw [hG] at r4
  obtain ⟨l1, l1a, l1b, l1c⟩ := r1.cells
  obtain ⟨l2, l2a, l2b, l2c⟩ := r2.cells
  obtain ⟨l3, l3a, l3b, l3c⟩ := r3.cells
  obtain ⟨l4, l4a, l4b, l4c⟩ := r4.cells
  rw [sv_length] at l1 l1a l1c l2 l2a l2c
  rw [iv_length] at l3 l3a l3c l4 l4a l4c
  rw [← l1] at l1a l1c
  rw [← l2] at l2a l2c
  rw [← l3] at l3a l3c
  rw [← l4] at l4a l4c
  unfold maxLen at l1b l2b l3b l4b
  have R1 : Aside _ := l1c
  have R2 : Aside _ := l2c
  have R3 : Aside _ := l3c
  have R4 : Aside _ := l4c
  have HN : Hid (nD = a.ds.length ∧ nE = b.ds.length ∧ nM = a.ms.length ∧ nG = b.ms.length) := ⟨l1, l2, l3, l4⟩
  have hbox : ∀ w5, (∃ Q, w5 = W.drewN Q) → (w5.cell? ⟨w.heap.size, 0, none⟩ = some (.int .i64 a.t) ∧ w5.cell? ⟨w.heap.size, 1, none⟩ = some (.slice aD nD cD) ∧ w5.cell? ⟨w.heap.size, 2, none⟩ = some (.slice aM nM cM)) ∧ w5.cell? ⟨w.heap.size + 1, 0, none⟩ = some (.int .i64 b.t) ∧ w5.cell? ⟨w.heap.size + 1, 1, none⟩ = some (.slice aE nE cE) ∧ w5.cell? ⟨w.heap.size + 1, 2, none⟩ = some (.slice aG nG cG) := by
    rintro w5 ⟨Q, rfl⟩
    have e : ∀ p, (W.drewN Q).cell? p = W.cell? p := fun p => rfl
    simp only [hW, hD, hM, hE, hG]
    refine ⟨⟨?_, ?_, ?_⟩, ?_, ?_, ?_⟩ <;> simp
  have HBX : Aside _ := hbox
  have gr : ∀ w5, (∃ Q, w5 = W.drewN Q) → Grows w w5 := by
    rintro w5 ⟨Q, rfl⟩
    exact gW.trans (Grows.drewN _ _)
  have GR : Aside _ := gr
  have FT : Hid (cmpF a.ft b.ft = if a.t = b.t then (if cmpR cmpS a.ds b.ds = 0 then cmpR cmpI a.ms b.ms else cmpR cmpS a.ds b.ds) else cmpI a.t b.t) := rfl
  have HW : Hid (W.drewN 0 = (w.alloc (.cells #[.int .i64 a.t, .slice aD nD cD, .slice aM nM cM] 27)).alloc (.cells #[.int .i64 b.t, .slice aE nE cE, .slice aG nG cG] 27)) := by
    show W = _
    rw [hW, hD, hM, hE, hG]
  rw [hD, hM, hE, hG]
  clear ha hb ka kb r1 r2 r3 r4 l1c l2c l3c l4c hbox gr gW hW hD hM hE hG l1 l2 l3 l4
  rcases Int.lt_trichotomy a.t b.t with h | h | h
  · have HTT : Hid (cmpF a.ft b.ft = -1) := by show _ = _; rw [FT.out, if_neg (by omega)]; unfold cmpI; rw [if_pos h]
    go_enter Try.func15, Try.ntmps15
    go_wp2_with fail
    go_ret
    exact ⟨by rw [HTT.out]; rfl, by rw [← HW.out]; exact GR.out _ ⟨0, rfl⟩⟩
  · have h1 : ¬ a.t < b.t := by omega
    have h2 : ¬ b.t < a.t := by omega
    have HTT : Hid (a.t = b.t) := h
    clear h
    go_enter Try.func15, Try.ntmps15
    go_wp2_with fail
    go_loopg [5] (nD + nE) (fun kx vi wr => ∃ i Q : Nat, vi = .int .i64 i ∧ i ≤ nD ∧ i ≤ nE ∧ nD + nE - i ≤ kx ∧ Hid (wr = W.drewN Q) ∧ Hid (∀ j, j < i → cmpS (a.ds.getD j []) (b.ds.getD j []) = 0))
    case atStart => exact ⟨0, 0, rfl, Nat.zero_le _, Nat.zero_le _, by omega, HW.out.symm, fun j hj => by omega⟩
    case round =>
      obtain ⟨i, Q, rfl, hi1, hi2, hkx, HWQ, HI⟩ := hrel
      obtain ⟨⟨x0, x1, x2⟩, y0, y1, y2⟩ := HBX.out wr ⟨Q, HWQ.out⟩
      by_cases ha : i < nD
      · have haz : (i : Int) < (nD : Int) := by omega
        have haz' : ¬ (nD : Int) ≤ (i : Int) := by omega
        by_cases hb : i < nE
        · have hbz : (i : Int) < (nE : Int) := by omega
          have hbz' : ¬ (nE : Int) ≤ (i : Int) := by omega
          have hia : i < a.ds.length := by have := HN.out; omega
          have hib : i < b.ds.length := by have := HN.out; omega
          obtain ⟨b1, o1, e1, c1⟩ := R1.out (by omega)
          obtain ⟨b2, o2, e2, c2⟩ := R2.out (by omega)
          subst e1 e2
          have r1 := c1 i _ (sv_get a.ds i hia)
          have r2 := c2 i _ (sv_get b.ds i hib)
          rw [show W.cell? ⟨b1, o1 + i, none⟩ = wr.cell? ⟨b1, o1 + i, none⟩ by rw [HWQ.out]; rfl] at r1
          rw [show W.cell? ⟨b2, o2 + i, none⟩ = wr.cell? ⟨b2, o2 + i, none⟩ by rw [HWQ.out]; rfl] at r2
          obtain ⟨x, hx⟩ : ∃ x, x = a.ds.getD i [] := ⟨_, rfl⟩
          obtain ⟨y, hy⟩ : ∃ y, y = b.ds.getD i [] := ⟨_, rfl⟩
          rw [← hx] at r1
          rw [← hy] at r2
          have HX : Hid (x = a.ds.getD i [] ∧ y = b.ds.getD i []) := ⟨hx, hy⟩
          have tx := str_toList x
          have ty := str_toList y
          clear hx hy c1 c2
          by_cases hxy : x < y
          · have hb1 : Op.bytesLess x y = true := by rw [bytesLess_eq]; exact decide_eq_true hxy
            have HR : Hid (cmpR cmpS a.ds b.ds = -1) := by
              have := cmpR_at cmpS_ord a.ds b.ds i hia hib (fun j k1 k2 hj => by have := HI.out j hj; simpa [k1, k2] using this) (by rw [show a.ds[i] = x by rw [HX.out.1]; simp [hia], show b.ds[i] = y by rw [HX.out.2]; simp [hib]]; unfold cmpS; rw [if_pos hxy]; decide)
              show _ = _
              rw [this, show a.ds[i] = x by rw [HX.out.1]; simp [hia], show b.ds[i] = y by rw [HX.out.2]; simp [hib]]
              unfold cmpS
              rw [if_pos hxy]
            clear hxy
            go_wp2_with fail
            go_quiet (fail)
            go_wp2_with fail
            go_ret
            exact ⟨by rw [FT.out, if_pos HTT.out, if_neg (by rw [HR.out]; decide), HR.out]; rfl, GR.out _ ⟨_, by rw [HWQ.out]; first | exact World.drewN_drewN _ _ _ | (rw [World.drewN_drewN, World.drewN_drewN])⟩⟩
          · have hb1 : Op.bytesLess x y = false := by rw [bytesLess_eq]; exact decide_eq_false hxy
            by_cases hyx : y < x
            · have hb2 : (x == y) = false := beq_eq_false_iff_ne.2 fun k => lt_irr x (by rw [k] at hyx ⊢; exact hyx)
              have HR : Hid (cmpR cmpS a.ds b.ds = 1) := by
                have := cmpR_at cmpS_ord a.ds b.ds i hia hib (fun j k1 k2 hj => by have := HI.out j hj; simpa [k1, k2] using this) (by rw [show a.ds[i] = x by rw [HX.out.1]; simp [hia], show b.ds[i] = y by rw [HX.out.2]; simp [hib]]; unfold cmpS; rw [if_neg hxy, if_pos hyx]; decide)
                show _ = _
                rw [this, show a.ds[i] = x by rw [HX.out.1]; simp [hia], show b.ds[i] = y by rw [HX.out.2]; simp [hib]]
                unfold cmpS
                rw [if_neg hxy, if_pos hyx]
              clear hxy hyx
              go_wp2_with fail
              go_quiet (fail)
              go_wp2_with fail
              go_quiet (fail)
              go_wp2_with fail
              go_ret
              exact ⟨by rw [FT.out, if_pos HTT.out, if_neg (by rw [HR.out]; decide), HR.out]; rfl, GR.out _ ⟨_, by rw [HWQ.out]; first | exact World.drewN_drewN _ _ _ | (rw [World.drewN_drewN, World.drewN_drewN])⟩⟩
            · have hb2 : (x == y) = true := by rw [eq_of_not hxy hyx]; exact beq_self_eq_true y
              have HE : Hid (x = y) := eq_of_not hxy hyx
              clear hxy hyx
              go_wp2_with fail
              go_quiet (fail)
              have hn1 : Hid (nq = nq) := rfl
              generalize nq = nq1 at *
              go_wp2_with fail
              go_quiet (fail)
              go_wp2_with fail
              go_roundg (nD + nE - (i + 1))
              case measure => omega
              case rel =>
                refine ⟨i + 1, Q + nq1 + nq, by go_num, by omega, by omega, by omega, ?_, fun j hj => ?_⟩
                · show _ = _
                  rw [HWQ.out]
                  simp only [World.drewN_drewN, Nat.add_assoc]
                · by_cases hji : j = i
                  · subst hji
                    rw [← HX.out.1, ← HX.out.2, HE.out]
                    exact cmpS_ord.refl _
                  · exact HI.out j (by omega)
        · have hbz : ¬ (i : Int) < (nE : Int) := by omega
          have hbz' : (nE : Int) ≤ (i : Int) := by omega
          have HR : Hid (cmpR cmpS a.ds b.ds = 1) := by
            have := cmpR_len cmpS_ord a.ds b.ds fun j h1 h2 => by have := HI.out j (by have := HN.out; omega); simpa [h1, h2] using this
            show _ = _
            rw [this]; unfold cmpI
            have := HN.out
            rw [if_neg (by omega), if_pos (by omega)]
          go_wp2_with fail
          go_ret
          exact ⟨by rw [FT.out, if_pos HTT.out, if_neg (by rw [HR.out]; decide), HR.out]; rfl, GR.out _ ⟨Q, HWQ.out⟩⟩
      · have haz : ¬ (i : Int) < (nD : Int) := by omega
        have haz' : (nD : Int) ≤ (i : Int) := by omega
        by_cases hb : i < nE
        · have hbz : (i : Int) < (nE : Int) := by omega
          have hbz' : ¬ (nE : Int) ≤ (i : Int) := by omega
          have HR : Hid (cmpR cmpS a.ds b.ds = -1) := by
            have := cmpR_len cmpS_ord a.ds b.ds fun j h1 h2 => by have := HI.out j (by have := HN.out; omega); simpa [h1, h2] using this
            show _ = _
            rw [this]; unfold cmpI
            have := HN.out
            rw [if_pos (by omega)]
          go_wp2_with fail
          go_ret
          exact ⟨by rw [FT.out, if_pos HTT.out, if_neg (by rw [HR.out]; decide), HR.out]; rfl, GR.out _ ⟨Q, HWQ.out⟩⟩
        · have hbz : ¬ (i : Int) < (nE : Int) := by omega
          have hbz' : (nE : Int) ≤ (i : Int) := by omega
          have HR : Hid (cmpR cmpS a.ds b.ds = 0) := by
            have := cmpR_len cmpS_ord a.ds b.ds fun j h1 h2 => by have := HI.out j (by have := HN.out; omega); simpa [h1, h2] using this
            show _ = _
            rw [this]; unfold cmpI
            have := HN.out
            rw [if_neg (by omega), if_neg (by omega)]
          clear HI
          have HRD : Hid (cmpR cmpS a.ds b.ds = 0) := HR.out
          clear HR
          go_wp2_with fail
          go_loopg [6] (nM + nG) (fun kx vi wr => ∃ i Q : Nat, vi = .int .i64 i ∧ i ≤ nM ∧ i ≤ nG ∧ nM + nG - i ≤ kx ∧ Hid (wr = W.drewN Q) ∧ Hid (∀ j, j < i → cmpI (a.ms.getD j 0) (b.ms.getD j 0) = 0))
          case atStart => exact ⟨0, Q, rfl, Nat.zero_le _, Nat.zero_le _, by omega, HWQ.out, fun j hj => by omega⟩
          case round =>
            clear HWQ hi1 hi2 hkx ha hb haz haz' hbz hbz' x0 x1 x2 y0 y1 y2
            obtain ⟨i, Q, rfl, hi1, hi2, hkx, HWQ, HI⟩ := hrel
            obtain ⟨⟨x0, x1, x2⟩, y0, y1, y2⟩ := HBX.out wr ⟨Q, HWQ.out⟩
            by_cases ha : i < nM
            · have haz : (i : Int) < (nM : Int) := by omega
              have haz' : ¬ (nM : Int) ≤ (i : Int) := by omega
              by_cases hb : i < nG
              · have hbz : (i : Int) < (nG : Int) := by omega
                have hbz' : ¬ (nG : Int) ≤ (i : Int) := by omega
                have hia : i < a.ms.length := by have := HN.out; omega
                have hib : i < b.ms.length := by have := HN.out; omega
                obtain ⟨b1, o1, e1, c1⟩ := R3.out (by omega)
                obtain ⟨b2, o2, e2, c2⟩ := R4.out (by omega)
                subst e1 e2
                have r1 := c1 i _ (iv_get a.ms i hia)
                have r2 := c2 i _ (iv_get b.ms i hib)
                rw [show W.cell? ⟨b1, o1 + i, none⟩ = wr.cell? ⟨b1, o1 + i, none⟩ by rw [HWQ.out]; rfl] at r1
                rw [show W.cell? ⟨b2, o2 + i, none⟩ = wr.cell? ⟨b2, o2 + i, none⟩ by rw [HWQ.out]; rfl] at r2
                obtain ⟨x, hx⟩ : ∃ x, x = a.ms.getD i 0 := ⟨_, rfl⟩
                obtain ⟨y, hy⟩ : ∃ y, y = b.ms.getD i 0 := ⟨_, rfl⟩
                rw [← hx] at r1
                rw [← hy] at r2
                have HX : Hid (x = a.ms.getD i 0 ∧ y = b.ms.getD i 0) := ⟨hx, hy⟩
                clear hx hy c1 c2
                by_cases hxy : x < y
                · have hb1 : x < y := hxy
                  have HR : Hid (cmpR cmpI a.ms b.ms = -1) := by
                    have := cmpR_at cmpI_ord a.ms b.ms i hia hib (fun j k1 k2 hj => by have := HI.out j hj; simpa [k1, k2] using this) (by rw [show a.ms[i] = x by rw [HX.out.1]; simp [hia], show b.ms[i] = y by rw [HX.out.2]; simp [hib]]; unfold cmpI; rw [if_pos hxy]; decide)
                    show _ = _
                    rw [this, show a.ms[i] = x by rw [HX.out.1]; simp [hia], show b.ms[i] = y by rw [HX.out.2]; simp [hib]]
                    unfold cmpI
                    rw [if_pos hxy]
                  clear hxy
                  go_wp2_with fail
                  go_quiet (fail)
                  go_wp2_with fail
                  go_ret
                  exact ⟨by rw [FT.out, if_pos HTT.out, if_pos HRD.out, HR.out]; rfl, GR.out _ ⟨_, by rw [HWQ.out]; first | exact World.drewN_drewN _ _ _ | (rw [World.drewN_drewN, World.drewN_drewN])⟩⟩
                · have hb1 : ¬ x < y := hxy
                  by_cases hyx : y < x
                  · have hb2 : y < x := hyx
                    have HR : Hid (cmpR cmpI a.ms b.ms = 1) := by
                      have := cmpR_at cmpI_ord a.ms b.ms i hia hib (fun j k1 k2 hj => by have := HI.out j hj; simpa [k1, k2] using this) (by rw [show a.ms[i] = x by rw [HX.out.1]; simp [hia], show b.ms[i] = y by rw [HX.out.2]; simp [hib]]; unfold cmpI; rw [if_neg hxy, if_pos hyx]; decide)
                      show _ = _
                      rw [this, show a.ms[i] = x by rw [HX.out.1]; simp [hia], show b.ms[i] = y by rw [HX.out.2]; simp [hib]]
                      unfold cmpI
                      rw [if_neg hxy, if_pos hyx]
                    clear hxy hyx
                    go_wp2_with fail
                    go_quiet (fail)
                    go_wp2_with fail
                    go_quiet (fail)
                    go_wp2_with fail
                    go_ret
                    exact ⟨by rw [FT.out, if_pos HTT.out, if_pos HRD.out, HR.out]; rfl, GR.out _ ⟨_, by rw [HWQ.out]; first | exact World.drewN_drewN _ _ _ | (rw [World.drewN_drewN, World.drewN_drewN])⟩⟩
                  · have hb2 : ¬ y < x := hyx
                    have HE : Hid (x = y) := by show x = y; omega
                    clear hxy hyx
                    go_wp2_with fail
                    go_quiet (fail)
                    have hn1 : Hid (nq = nq) := rfl
                    generalize nq = nq1 at *
                    go_wp2_with fail
                    go_quiet (fail)
                    go_wp2_with fail
                    go_roundg (nM + nG - (i + 1))
                    case measure => omega
                    case rel =>
                      refine ⟨i + 1, Q + nq1 + nq, by go_num, by omega, by omega, by omega, ?_, fun j hj => ?_⟩
                      · show _ = _
                        rw [HWQ.out]
                        simp only [World.drewN_drewN, Nat.add_assoc]
                      · by_cases hji : j = i
                        · subst hji
                          rw [← HX.out.1, ← HX.out.2, HE.out]
                          exact cmpI_ord.refl _
                        · exact HI.out j (by omega)
              · have hbz : ¬ (i : Int) < (nG : Int) := by omega
                have hbz' : (nG : Int) ≤ (i : Int) := by omega
                have HR : Hid (cmpR cmpI a.ms b.ms = 1) := by
                  have := cmpR_len cmpI_ord a.ms b.ms fun j h1 h2 => by have := HI.out j (by have := HN.out; omega); simpa [h1, h2] using this
                  show _ = _
                  rw [this]; unfold cmpI
                  have := HN.out
                  rw [if_neg (by omega), if_pos (by omega)]
                go_wp2_with fail
                go_ret
                exact ⟨by rw [FT.out, if_pos HTT.out, if_pos HRD.out, HR.out]; rfl, GR.out _ ⟨Q, HWQ.out⟩⟩
            · have haz : ¬ (i : Int) < (nM : Int) := by omega
              have haz' : (nM : Int) ≤ (i : Int) := by omega
              by_cases hb : i < nG
              · have hbz : (i : Int) < (nG : Int) := by omega
                have hbz' : ¬ (nG : Int) ≤ (i : Int) := by omega
                have HR : Hid (cmpR cmpI a.ms b.ms = -1) := by
                  have := cmpR_len cmpI_ord a.ms b.ms fun j h1 h2 => by have := HI.out j (by have := HN.out; omega); simpa [h1, h2] using this
                  show _ = _
                  rw [this]; unfold cmpI
                  have := HN.out
                  rw [if_pos (by omega)]
                go_wp2_with fail
                go_ret
                exact ⟨by rw [FT.out, if_pos HTT.out, if_pos HRD.out, HR.out]; rfl, GR.out _ ⟨Q, HWQ.out⟩⟩
              · have hbz : ¬ (i : Int) < (nG : Int) := by omega
                have hbz' : (nG : Int) ≤ (i : Int) := by omega
                have HR : Hid (cmpR cmpI a.ms b.ms = 0) := by
                  have := cmpR_len cmpI_ord a.ms b.ms fun j h1 h2 => by have := HI.out j (by have := HN.out; omega); simpa [h1, h2] using this
                  show _ = _
                  rw [this]; unfold cmpI
                  have := HN.out
                  rw [if_neg (by omega), if_neg (by omega)]
                clear HI
                go_wp2_with fail
                go_ret
                exact ⟨by rw [FT.out, if_pos HTT.out, if_pos HRD.out, HR.out]; rfl, GR.out _ ⟨Q, HWQ.out⟩⟩
  · have HTT : Hid (cmpF a.ft b.ft = 1) := by show _ = _; rw [FT.out, if_neg (by omega)]; unfold cmpI; rw [if_neg (by omega), if_pos h]
    have h1 : ¬ a.t < b.t := by omega
    go_enter Try.func15, Try.ntmps15
    go_wp2_with fail
    go_ret
    exact ⟨by rw [HTT.out]; rfl, by rw [← HW.out]; exact GR.out _ ⟨0, rfl⟩⟩
end Go.Proofs.Ytgdeongeonhlpaa
