/- Contract of the reference's blobs: Put. -/
import Derived.Test.YthegdhbmfojdaaaRb1
import Derived.Test.YthegdhbmfojdaaaPtM
namespace Go.Proofs.Ythegdhbmfojdaaa
open Go.RowKit Go.Maps Go.Sort
set_option linter.unusedVariables false

theorem thr_no {r : Nat × RSt} {f : RSt → Nat × RSt} (h : r.1 ≠ 0) : thr r f = r := by unfold thr; rw [if_pos h]
theorem thr_yes {r : Nat × RSt} {f : RSt → Nat × RSt} (h : r.1 = 0) : thr r f = f r.2 := by unfold thr; rw [if_neg (by simp [h])]
theorem Rm.comp {w w1 w2 w3 : World} {r M : Nat} {G G1 : Nat → Prop} {t : RSt} (hG1 : ∀ i, G1 i → G i ∨ w.heap.size ≤ i) (f1 : Fr G w w1) (b : Below w1.heap.size w1 w2) (m : Rm w2 w3 r G1 M t) : Rm w w3 r G M t := by
  obtain ⟨⟨G3, d3, hG3⟩, f3⟩ := m
  have s1 := f1.size
  have s2 := b.size
  have fb : Fr G1 w1 w2 := Fr.of_below b
  exact ⟨⟨G3, d3, fun i hi => (hG3 i hi).elim (hG1 i) fun q => .inr (by omega)⟩, f1.trans (fb.trans f3 fun _ _ h => h) fun i hi hg => (hG1 i hg).resolve_right (by omega)⟩
theorem Rm.moreM {w w1 : World} {r N M : Nat} {G : Nat → Prop} {t : RSt} (h : Rm w w1 r G N t) (hM : N ≤ M) : Rm w w1 r G M t := by
  obtain ⟨⟨G3, ⟨Lv, Z, d3⟩, hG3⟩, f3⟩ := h
  exact ⟨⟨G3, ⟨Lv, Z, d3.more hM⟩, hG3⟩, f3⟩
theorem Rd.ltB {w : World} {d N : Nat} {F : Nat → Prop} {s : RSt} (h : Rd w d F N s) : ∀ i, F i → i < w.heap.size := by
  obtain ⟨Lv, Z, h⟩ := h
  exact h.lt
theorem fr_new {w1 w2 : World} {r N : Nat} {G : Nat → Prop} {t : RSt} {v : Value} {l : Str} (d : Rd w1 r G N t) (o : Owns w2 w1.heap.size v l) (hl : 0 < l.length) : ∀ w', Fr G w2 w' → Reads w' v l := by
  intro w' hf
  obtain ⟨g, cap, hv, hg, -⟩ := o.some hl
  refine Reads.fr o.reads (fun ad n c e hF => ?_) hf
  rw [hv] at e
  simp only [Value.slice.injEq, Option.some.injEq] at e
  obtain ⟨rfl, -, -⟩ := e
  have := d.ltB _ hF
  simp only at this
  omega
set_option maxRecDepth 100000 in
set_option maxHeartbeats 3200000 in
theorem refputB_any (w : World) (r N : Nat) (G : Nat → Prop) (t : RSt) (x l : Str) (v : Value) (h : Rd w r G N t) (hR : ∃ s, Rel s t) (hx : x.length ≤ 2000000) (hv : ∀ w', Fr G w w' → Reads w' v l) (hN : N + 1048584 ≤ 140737488355328) (hop : t.n < 999000) (hp : t.part ≤ 9223372036854775807) :
    Calls Try.prog 33 #[.pointer (some ⟨r, 0, none⟩), .string ⟨x.toArray⟩, v] w fun e w' => e = .returned (.int .i64 ((rputB t x l).1 : Nat)) ∧ Rm w w' r G (N + 1048584) (rputB t x l).2 := by
  obtain ⟨va, vc, hve, -⟩ := hv w (Fr.refl _ _)
  subst hve
  have HV : Hid (∀ w', Fr G w w' → Reads w' (.slice va l.length vc) l) := hv
  have kR := refrefB_any w r N G t x h hx
  have kF := reffind_any w r N G t (fB x) h
  have kT := reffind_any w r N G t (fT x) h
  have HT : Hid ((fB x).length ≤ maxLen ∧ (fT x).length ≤ maxLen) := fB_len hx
  have HCB : Hid (∀ w', (Op.stringOp .add ⟨#[98, 46]⟩ ⟨x.toArray⟩).run Try.prog w' = .ok (.string ⟨(fB x).toArray⟩) w') := fun w' => cat_bL w' x hx
  have HCT : Hid (∀ w', (Op.stringOp .add ⟨#[116, 46]⟩ ⟨x.toArray⟩).run Try.prog w' = .ok (.string ⟨(fT x).toArray⟩) w') := fun w' => cat_tL w' x hx
  have HX : Hid (x.length ≤ 2000000) := hx
  obtain ⟨c1, hc1⟩ : ∃ c, c = rrB t x := ⟨_, rfl⟩
  have HR : Hid (rputB t x l = if c1 ≠ 0 then (c1, t) else if 1048576 < l.length then (1, t) else if hasF t.fs (fB x) then (if (rgetB t x).1 = 0 ∧ (rgetB t x).2 = l then (0, t) else (121, t)) else rwrB t x (Wi.framed l)) := by apply hide; rw [hc1]; rfl
  have HD : Hid (Rd w r G N t) := h
  have HRel : Hid (∃ s, Rel s t) := hR
  rw [← hc1] at kR
  clear h hx hc1 hv hR
  have hcb := fun w' => HCB.out w'
  go_enter Try.func33, Try.ntmps33
  go_wp2_with fail
  refine kR.mono ?_
  rintro e w' ⟨rfl, rfl⟩
  clear kR
  by_cases h1 : c1 = 0
  · subst h1
    by_cases hbig : 1048576 < l.length
    · have hbz : (1048576 : Int) < (l.length : Int) := by omega
      go_wp2_with fail
      go_ret
      rw [HR.out, if_neg (by simp), if_pos hbig]
      exact ⟨rfl, Rm.sameB HD.out (Nat.le_add_right _ _)⟩
    · have hbz : ¬ (1048576 : Int) < (l.length : Int) := by omega
      have HR2 : Hid (rputB t x l = if hasF t.fs (fB x) then (if (rgetB t x).1 = 0 ∧ (rgetB t x).2 = l then (0, t) else (121, t)) else rwrB t x (Wi.framed l)) := by
        apply hide
        rw [HR.out, if_neg (by simp), if_neg hbig]
      clear HR
      cases hb : hasF t.fs (fB x) with
      | true =>
        obtain ⟨i, hi, hfi, -⟩ := fI_has hb
        rw [hfi] at kF
        have hiz : (0 : Int) ≤ (i : Int) := by omega
        have kG := refgetB_any w' r N G t x HD.out HX.out (by omega)
        rw [hb, if_pos rfl] at HR2
        obtain ⟨rG, hrG⟩ : ∃ r, r = rgetB t x := ⟨_, rfl⟩
        rw [← hrG] at kG HR2
        obtain ⟨cG, m⟩ := rG
        simp only at kG HR2
        clear hi hfi hrG kT hb
        go_wp2_with fail
        refine kF.mono ?_
        rintro e w2 ⟨rfl, rfl⟩
        clear kF hcb
        go_wp2_with fail
        refine kG.mono ?_
        rintro e w3 ⟨v3, rfl, o3, b3⟩
        have H3 : Hid (Below w2.heap.size w2 w3) := b3
        have HDM : Hid (Rm w2 w3 r G (N + 1048584) t) := Rm.comp (w1 := w2) (w2 := w3) (G1 := G) (fun _ h => .inl h) (Fr.refl _ _) b3 (Rm.sameB (HD.out.below b3) (Nat.le_add_right _ _))
        have cv1 := conv_string w3 v3 m o3.reads
        have cv2 := conv_string w3 _ l (HV.out w3 (Fr.of_below b3))
        obtain ⟨wa, wc, hwv, -⟩ := o3.reads
        subst hwv
        clear kG o3 b3
        by_cases hc : cG = 0
        · subst hc
          by_cases hml : m = l
          · subst hml
            go_wp2_with fail
            go_ret
            rw [HR2.out, if_pos (by simp)]
            exact ⟨rfl, HDM.out⟩
          · have hq : (m == l) = false := by rw [beq_eq_false_iff_ne]; exact hml
            go_wp2_with fail
            go_ret
            rw [HR2.out, if_neg (fun q => hml q.2)]
            exact ⟨rfl, HDM.out⟩
        · have hcz := code_nz hc
          go_wp2_with fail
          go_ret
          rw [HR2.out, if_neg (fun q => hc q.1)]
          exact ⟨rfl, HDM.out⟩
      | false =>
        rw [fI_none hb] at kF
        rw [hb, if_neg (by simp)] at HR2
        have hct := fun w' => HCT.out w'
        cases hbt : hasF t.fs (fT x) with
        | true =>
          obtain ⟨i, hi, hfi, -⟩ := fI_has hbt
          rw [hfi] at kT
          have hiz : (0 : Int) ≤ (i : Int) := by omega
          obtain ⟨s0, R0⟩ := HRel.out
          have kD := refremove_any w' r N G t (fT x) HD.out HT.out.2 (by omega) (by omega) hp
          have HR0 : Hid (∃ s, Rel s (rrem t (fT x)).2) := ⟨_, (R0.remove (fT x)).2⟩
          have HP0 : Hid _ := rrem_pt t (fT x)
          obtain ⟨rD, hrD⟩ : ∃ r, r = rrem t (fT x) := ⟨_, rfl⟩
          have HW0 : Hid (rputB t x l = thr (thr (thr rD fun t => rapp t (fT x) (Wi.framed l)) fun t => rsyn t (fT x)) fun t => rren t (fT x) (fB x)) := by
            apply hide
            rw [HR2.out, hrD]
            unfold rwrB rw1
            rw [if_pos hbt]
          rw [← hrD] at kD HR0 HP0
          obtain ⟨cD, t1⟩ := rD
          clear hi hfi hrD hb hbt R0 HRel HR2
          go_wp2_with fail
          refine kF.mono ?_
          rintro e w' ⟨rfl, rfl⟩
          clear kF hcb
          go_wp2_with fail
          refine kT.mono ?_
          rintro e w' ⟨rfl, rfl⟩
          clear kT
          go_wp2_with fail
          refine kD.mono ?_
          rintro e w1 ⟨rfl, m1⟩
          have H1 : Hid (Rm w' w1 r G N t1) := m1
          clear kD m1 hct
          by_cases hcD : cD = 0
          · subst hcD
            have HN1 : Hid (t1.n < 999001 ∧ t1.part = t.part) := ⟨by have := HP0.out.2; omega, HP0.out.1⟩
            have HW : Hid (rputB t x l = thr (thr (rapp t1 (fT x) (Wi.framed l)) fun t => rsyn t (fT x)) fun t => rren t (fT x) (fB x)) := by
              apply hide
              rw [HW0.out]
              rfl
            have HRel1 : Hid (∃ s, Rel s t1) := HR0
            clear HW0 HR0 HP0
            obtain ⟨⟨G1, d1, hG1⟩, f1⟩ := H1.out
            have kFr := Wi.refframe_any w1 (.slice va l.length vc) l (HV.out w1 f1) (Nat.le_of_not_lt hbig)
            have HG1 : Hid ((∀ i, G1 i → G i ∨ w'.heap.size ≤ i) ∧ Fr G w' w1 ∧ Rd w1 r G1 N t1) := ⟨hG1, f1, d1⟩
            clear hG1 f1 d1 H1
            go_wp2_with fail
            refine kFr.mono ?_
            rintro e w2 ⟨v2, rfl, o2, b2⟩
            have d2 : Rd w2 r G1 N t1 := HG1.out.2.2.below b2
            have hr2 : ∀ w', Fr G1 w2 w' → Reads w' v2 (Wi.framed l) := fr_new HG1.out.2.2 o2 (by rw [framed_len]; omega)
            have HBL : Hid (Below w1.heap.size w1 w2) := b2
            obtain ⟨s1, R1⟩ := HRel1.out
            have kA := refappend_any w2 r N G1 t1 (fT x) v2 (Wi.framed l) d2 HT.out.2 hr2 (by rw [framed_len]; omega) (by have := HN1.out.1; omega) (by rw [HN1.out.2]; exact hp) R1.sp.srt
            have HRA : Hid (∃ s, Rel s (rapp t1 (fT x) (Wi.framed l)).2) := ⟨_, (R1.append (fT x) (Wi.framed l)).2⟩
            have HPA : Hid _ := rapp_pt t1 (fT x) (Wi.framed l)
            have hFL : N + (Wi.framed l).length ≤ N + 1048584 := by rw [framed_len]; omega
            have HFL : Hid (N + (Wi.framed l).length ≤ N + 1048584) := hFL
            obtain ⟨rA, hrA⟩ : ∃ r, r = rapp t1 (fT x) (Wi.framed l) := ⟨_, rfl⟩
            rw [← hrA] at kA HRA HPA HW
            obtain ⟨cA, tA⟩ := rA
            obtain ⟨va2, vc2, hv2, -⟩ := hr2 w2 (Fr.refl _ _)
            subst hv2
            clear kFr o2 b2 d2 hr2 R1 HRel1 hrA hFL
            have hct := fun w' => HCT.out w'
            go_wp2_with fail
            refine kA.mono ?_
            rintro e w3 ⟨rfl, m3⟩
            have M3 : Rm w' w3 r G (N + 1048584) tA := (Rm.comp HG1.out.1 HG1.out.2.1 HBL.out m3).moreM HFL.out
            obtain ⟨⟨G3, d3, hG3⟩, f3⟩ := M3
            have H3 : Hid ((∀ i, G3 i → G i ∨ w'.heap.size ≤ i) ∧ Fr G w' w3 ∧ Rd w3 r G3 (N + 1048584) tA) := ⟨hG3, f3, d3⟩
            clear kA m3 d3 hG3 f3 HG1 HBL
            by_cases hcA : cA = 0
            · subst hcA
              obtain ⟨sA, RA⟩ := HRA.out
              have kS := refsync_any w3 r (N + 1048584) G3 tA (fT x) H3.out.2.2 HT.out.2 hN (by have := HN1.out.1; have := HPA.out.2; omega) (by rw [HPA.out.1, HN1.out.2]; exact hp)
              have HRS : Hid (∃ s, Rel s (rsyn tA (fT x)).2) := ⟨_, (RA.sync (fT x)).2⟩
              have HPS : Hid _ := rsyn_pt tA (fT x)
              obtain ⟨rS, hrS⟩ : ∃ r, r = rsyn tA (fT x) := ⟨_, rfl⟩
              have HW2 : Hid (rputB t x l = thr rS fun t => rren t (fT x) (fB x)) := by
                apply hide
                rw [HW.out, thr_yes (r := (0, tA)) rfl, hrS]
              rw [← hrS] at kS HRS HPS
              obtain ⟨cS, tS⟩ := rS
              clear RA hrS HW
              go_wp2_with fail
              refine kS.mono ?_
              rintro e w4 ⟨rfl, m4⟩
              have M4 : Rm w' w4 r G (N + 1048584) tS := Rm.comp H3.out.1 H3.out.2.1 (Below.refl _ _) m4
              obtain ⟨⟨G4, d4, hG4⟩, f4⟩ := M4
              have H4 : Hid ((∀ i, G4 i → G i ∨ w'.heap.size ≤ i) ∧ Fr G w' w4 ∧ Rd w4 r G4 (N + 1048584) tS) := ⟨hG4, f4, d4⟩
              clear kS m4 d4 hG4 f4 H3
              by_cases hcS : cS = 0
              · subst hcS
                obtain ⟨sS, RS⟩ := HRS.out
                have kM := refrename_any w4 r (N + 1048584) G4 tS (fT x) (fB x) H4.out.2.2 HT.out.2 HT.out.1 hN (by have := HN1.out.1; have := HPA.out.2; have := HPS.out.2; omega) (by rw [HPS.out.1, HPA.out.1, HN1.out.2]; exact hp) RS.sp.srt
                obtain ⟨rM, hrM⟩ : ∃ r, r = rren tS (fT x) (fB x) := ⟨_, rfl⟩
                have HW3 : Hid (rputB t x l = rM) := by
                  apply hide
                  rw [HW2.out, thr_yes (r := (0, tS)) rfl, hrM]
                rw [← hrM] at kM
                obtain ⟨cM, tM⟩ := rM
                have hcb := fun w' => HCB.out w'
                clear RS hrM HW2
                go_wp2_with fail
                refine kM.mono ?_
                rintro e w5 ⟨rfl, m5⟩
                have M5 : Hid (Rm w' w5 r G (N + 1048584) tM) := Rm.comp H4.out.1 H4.out.2.1 (Below.refl _ _) m5
                clear kM m5 hct hcb
                go_wp2_with fail
                go_ret
                rw [HW3.out]
                exact ⟨rfl, M5.out⟩
              · have hcz := code_nz hcS
                clear hct
                go_wp2_with fail
                go_ret
                rw [HW2.out, thr_no hcS]
                exact ⟨rfl, ⟨_, H4.out.2.2, H4.out.1⟩, H4.out.2.1⟩
            · have hcz := code_nz hcA
              clear hct
              go_wp2_with fail
              go_ret
              rw [HW.out, thr_no (r := (cA, tA)) hcA, thr_no hcA]
              exact ⟨rfl, ⟨_, H3.out.2.2, H3.out.1⟩, H3.out.2.1⟩
          · have hcz := code_nz hcD
            go_wp2_with fail
            go_ret
            rw [HW0.out, thr_no (r := thr (thr (cD, t1) _) _) (by rw [thr_no (r := thr (cD, t1) _) (by rw [thr_no hcD]; exact hcD), thr_no hcD]; exact hcD), thr_no (r := thr (cD, t1) _) (by rw [thr_no hcD]; exact hcD), thr_no hcD]
            exact ⟨rfl, H1.out.moreM (Nat.le_add_right _ _)⟩
        | false =>
          rw [fI_none hbt] at kT
          have HW : Hid (rputB t x l = thr (thr (rapp t (fT x) (Wi.framed l)) fun t => rsyn t (fT x)) fun t => rren t (fT x) (fB x)) := by
            apply hide
            rw [HR2.out]
            unfold rwrB rw1
            rw [hbt, if_neg (by simp), thr_yes (r := (0, t)) rfl]
          clear hb hbt HR2
          go_wp2_with fail
          refine kF.mono ?_
          rintro e w2 ⟨rfl, rfl⟩
          clear kF hcb
          go_wp2_with fail
          refine kT.mono ?_
          rintro e w1 ⟨rfl, rfl⟩
          clear kT hct
          obtain ⟨q0, hq0⟩ : ∃ q, q = t.part := ⟨_, rfl⟩
          have hp0 : q0 ≤ 9223372036854775807 := by rw [hq0]; exact hp
          have HN1 : Hid (t.n < 999001 ∧ t.part = q0) := ⟨by omega, hq0.symm⟩
          clear hq0
          have HRel1 : Hid (∃ s, Rel s t) := HRel
          have H1 : Hid (Rm w1 w1 r G N t) := Rm.sameB HD.out (Nat.le_refl _)
          clear HRel HD
          obtain ⟨⟨G1, d1, hG1⟩, f1⟩ := H1.out
          have kFr := Wi.refframe_any w1 (.slice va l.length vc) l (HV.out w1 f1) (Nat.le_of_not_lt hbig)
          have HG1 : Hid ((∀ i, G1 i → G i ∨ w1.heap.size ≤ i) ∧ Fr G w1 w1 ∧ Rd w1 r G1 N t) := ⟨hG1, f1, d1⟩
          clear hG1 f1 d1 H1
          go_wp2_with fail
          refine kFr.mono ?_
          rintro e w2 ⟨v2, rfl, o2, b2⟩
          have d2 : Rd w2 r G1 N t := HG1.out.2.2.below b2
          have hr2 : ∀ w', Fr G1 w2 w' → Reads w' v2 (Wi.framed l) := fr_new HG1.out.2.2 o2 (by rw [framed_len]; omega)
          have HBL : Hid (Below w1.heap.size w1 w2) := b2
          obtain ⟨s1, R1⟩ := HRel1.out
          have kA := refappend_any w2 r N G1 t (fT x) v2 (Wi.framed l) d2 HT.out.2 hr2 (by rw [framed_len]; omega) (by have := HN1.out.1; omega) (by rw [HN1.out.2]; exact hp0) R1.sp.srt
          have HRA : Hid (∃ s, Rel s (rapp t (fT x) (Wi.framed l)).2) := ⟨_, (R1.append (fT x) (Wi.framed l)).2⟩
          have HPA : Hid _ := rapp_pt t (fT x) (Wi.framed l)
          have hFL : N + (Wi.framed l).length ≤ N + 1048584 := by rw [framed_len]; omega
          have HFL : Hid (N + (Wi.framed l).length ≤ N + 1048584) := hFL
          obtain ⟨rA, hrA⟩ : ∃ r, r = rapp t (fT x) (Wi.framed l) := ⟨_, rfl⟩
          rw [← hrA] at kA HRA HPA HW
          obtain ⟨cA, tA⟩ := rA
          obtain ⟨va2, vc2, hv2, -⟩ := hr2 w2 (Fr.refl _ _)
          subst hv2
          clear kFr o2 b2 d2 hr2 R1 HRel1 hrA hFL
          have hct := fun w' => HCT.out w'
          go_wp2_with fail
          refine kA.mono ?_
          rintro e w3 ⟨rfl, m3⟩
          have M3 : Rm w1 w3 r G (N + 1048584) tA := (Rm.comp HG1.out.1 HG1.out.2.1 HBL.out m3).moreM HFL.out
          obtain ⟨⟨G3, d3, hG3⟩, f3⟩ := M3
          have H3 : Hid ((∀ i, G3 i → G i ∨ w1.heap.size ≤ i) ∧ Fr G w1 w3 ∧ Rd w3 r G3 (N + 1048584) tA) := ⟨hG3, f3, d3⟩
          clear kA m3 d3 hG3 f3 HG1 HBL
          by_cases hcA : cA = 0
          · subst hcA
            obtain ⟨sA, RA⟩ := HRA.out
            have kS := refsync_any w3 r (N + 1048584) G3 tA (fT x) H3.out.2.2 HT.out.2 hN (by have := HN1.out.1; have := HPA.out.2; omega) (by rw [HPA.out.1, HN1.out.2]; exact hp0)
            have HRS : Hid (∃ s, Rel s (rsyn tA (fT x)).2) := ⟨_, (RA.sync (fT x)).2⟩
            have HPS : Hid _ := rsyn_pt tA (fT x)
            obtain ⟨rS, hrS⟩ : ∃ r, r = rsyn tA (fT x) := ⟨_, rfl⟩
            have HW2 : Hid (rputB t x l = thr rS fun t => rren t (fT x) (fB x)) := by
              apply hide
              rw [HW.out, thr_yes (r := (0, tA)) rfl, hrS]
            rw [← hrS] at kS HRS HPS
            obtain ⟨cS, tS⟩ := rS
            clear RA hrS HW
            go_wp2_with fail
            refine kS.mono ?_
            rintro e w4 ⟨rfl, m4⟩
            have M4 : Rm w1 w4 r G (N + 1048584) tS := Rm.comp H3.out.1 H3.out.2.1 (Below.refl _ _) m4
            obtain ⟨⟨G4, d4, hG4⟩, f4⟩ := M4
            have H4 : Hid ((∀ i, G4 i → G i ∨ w1.heap.size ≤ i) ∧ Fr G w1 w4 ∧ Rd w4 r G4 (N + 1048584) tS) := ⟨hG4, f4, d4⟩
            clear kS m4 d4 hG4 f4 H3
            by_cases hcS : cS = 0
            · subst hcS
              obtain ⟨sS, RS⟩ := HRS.out
              have kM := refrename_any w4 r (N + 1048584) G4 tS (fT x) (fB x) H4.out.2.2 HT.out.2 HT.out.1 hN (by have := HN1.out.1; have := HPA.out.2; have := HPS.out.2; omega) (by rw [HPS.out.1, HPA.out.1, HN1.out.2]; exact hp0) RS.sp.srt
              obtain ⟨rM, hrM⟩ : ∃ r, r = rren tS (fT x) (fB x) := ⟨_, rfl⟩
              have HW3 : Hid (rputB t x l = rM) := by
                apply hide
                rw [HW2.out, thr_yes (r := (0, tS)) rfl, hrM]
              rw [← hrM] at kM
              obtain ⟨cM, tM⟩ := rM
              have hcb := fun w' => HCB.out w'
              clear RS hrM HW2
              go_wp2_with fail
              refine kM.mono ?_
              rintro e w5 ⟨rfl, m5⟩
              have M5 : Hid (Rm w1 w5 r G (N + 1048584) tM) := Rm.comp H4.out.1 H4.out.2.1 (Below.refl _ _) m5
              clear kM m5 hct hcb
              go_wp2_with fail
              go_ret
              rw [HW3.out]
              exact ⟨rfl, M5.out⟩
            · have hcz := code_nz hcS
              clear hct
              go_wp2_with fail
              go_ret
              rw [HW2.out, thr_no hcS]
              exact ⟨rfl, ⟨_, H4.out.2.2, H4.out.1⟩, H4.out.2.1⟩
          · have hcz := code_nz hcA
            clear hct
            go_wp2_with fail
            go_ret
            rw [HW.out, thr_no (r := (cA, tA)) hcA, thr_no hcA]
            exact ⟨rfl, ⟨_, H3.out.2.2, H3.out.1⟩, H3.out.2.1⟩
  · have hcz := code_nz h1
    go_wp2_with fail
    go_ret
    rw [HR.out, if_pos h1]
    exact ⟨rfl, Rm.sameB HD.out (Nat.le_add_right _ _)⟩
end Go.Proofs.Ythegdhbmfojdaaa
