/- Contract: stretches. -/
import Derived.Test.YtgbmigfamefenaaStW
namespace Go.Proofs.Ytgbmigfamefenaa
open Go.Shelf Go.RowKit Go.Maps Go.Sort
set_option linter.unusedVariables false

theorem OwJ.cells {w : World} {base : Nat} {v : Value} {l : List Int} (h : OwJ w base v l) : ∃ a cap, v = .slice a l.length cap ∧ l.length ≤ cap ∧ (0 < l.length → ∃ b, a = some ⟨b, 0, none⟩ ∧ b < w.heap.size ∧ ∀ i (hi : i < l.length), w.cell? ⟨b, i, none⟩ = some (.int .i64 l[i])) := by
  rcases h.2 with ⟨h1, h2⟩ | ⟨g, cap, cur, h1, h2, h3, h4, h5, h6, h7⟩
  · exact ⟨none, 0, by rw [h1, h2], by omega, fun q => by omega⟩
  · refine ⟨some ⟨g, 0, none⟩, cap, h1, h4, fun _ => ⟨g, rfl, (Array.getElem?_eq_some_iff.1 h3).1, fun i hi => ?_⟩⟩
    have hc : cur[i]? = some (.int .i64 l[i]) := by
      rw [← Array.getElem?_toList]
      have : (cur.toList.take (l.length * 1))[i]? = some (.int .i64 l[i]) := by
        rw [h7]
        simp [iv, hi]
      rw [List.getElem?_take, if_pos (by omega)] at this
      exact this
    unfold World.cell?
    simp [h3, hc]
theorem OwS.mono {w : World} {base base' : Nat} {v : Value} {l : List S3} (h : OwS w base v l) (hb : base' ≤ base) : OwS w base' v l := by
  refine ⟨h.1, ?_⟩
  rcases h.2 with q | ⟨g, cap, cur, h1, h2, h3⟩
  · exact .inl q
  · exact .inr ⟨g, cap, cur, h1, Nat.le_trans hb h2, h3⟩
set_option maxRecDepth 100000 in
set_option maxHeartbeats 6400000 in
theorem stretches_any (w : World) (v : Value) (ks : List K3) (M : Int) (hv : RdsK 3 w v ks.length (kcs ks)) (hC : Cmg ks M) (hfew : ks.length ≤ 100000) :
    Calls Try.prog 24 #[v] w fun ev w' => ∃ v', ev = .returned v' ∧ ∃ out, OwS w' w.heap.size v' out ∧ Say ks out M ∧ out.length ≤ 2 * ks.length ∧ Below w.heap.size w w' := by
  have mixed : Try.prog.follows .mixedOrders = true := by kernel_rfl
  have kE := edgesOf_any w v ks hv hfew
  have hel := edL_len ks
  have hEd := edges_of ks
  have HCm := hide (Cm.of hv)
  obtain ⟨E, hE⟩ : ∃ E, E = edL ks := ⟨_, rfl⟩
  rw [← hE] at kE hel hEd
  have HEd := hide hEd
  have HC := hide hC
  clear hv hEd hC hE
  go_enter Try.func24, Try.ntmps24
  go_wp2_with fail
  refine kE.mono ?_
  rintro ev w5 ⟨v5, rfl, o5, b5⟩
  have HB5 := hide b5
  obtain ⟨a5, cap5, rfl, hc5, hE5⟩ := o5.cells
  have HE5 := hide hE5
  obtain ⟨m, hm⟩ : ∃ m, m = E.length := ⟨_, rfl⟩
  have HM := hide hm
  obtain ⟨n, hn⟩ : ∃ n, n = ks.length := ⟨_, rfl⟩
  have HN := hide hn
  rw [← hm] at hel hc5 ⊢
  rw [← hn] at hel hfew
  clear kE hE5 o5 b5 hm hn
  go_wp2_with fail
  go_loopg [0, 3, 4, 6, 7, 8, 13] m (fun kx v0 v3 v4 _ _ _ v13 wr => ∃ (j c : Nat) (bg : List K3) (out : List S3) (x0 x3 x4 : Value), x0 = v0 ∧ x3 = v3 ∧ x4 = v4 ∧ v13 = .int .i64 (j : Int) ∧ j ≤ m ∧ m - j ≤ kx ∧ Hid (StI ks E M j c bg out) ∧ Hid (SMem w5 wr x3 x4 bg out) ∧ Hid (Cm w x0 (ks.drop c)))
  case atStart => exact ⟨0, 0, [], [], _, _, _, rfl, rfl, rfl, rfl, Nat.zero_le _, Nat.le_refl _, StI.start HC.out HEd.out, ⟨.inl ⟨rfl, rfl⟩, ⟨rfl, .inl ⟨rfl, rfl⟩⟩, (fun r q => by cases q), Below.refl _ _⟩, HCm.out⟩
  case round =>
    obtain ⟨j, c, bg, out, x0, x3, x4, rfl, rfl, rfl, rfl, hj, hkx, HI, HS, HK⟩ := hrel
    by_cases hlt : j < m
    · have hltz : (j : Int) < (m : Int) := by omega
      have hjE : j < E.length := by have := HM.out; omega
      obtain ⟨b5, rfl, hb5w, hcs5⟩ := HE5.out (by omega)
      have q5 := hcs5 j hjE
      have p5 : wr.cell? ⟨b5, j, none⟩ = some (.int .i64 E[j]) := (HS.out.bel.cell (by exact hb5w)).trans q5
      have HJ := hide (HI.out.enter hjE)
      have HSay := hide (And.intro HI.out.say HI.out.ol)
      obtain ⟨e, he⟩ : ∃ e, e = E[j] := ⟨_, rfl⟩
      rw [← he] at p5 HJ
      have HE := hide he
      have HW1 : Hid (wrap64 ((j : Int) + 1) = (j : Int) + 1) := by apply hide; rw [← IntWalk.i64_left, IntKind.wrap_i64]; omega
      have HC5 := hide hcs5
      have hb5' : b5 < w5.heap.size := hb5w
      clear q5 hcs5 he hb5w
      go_wp2_with fail
      obtain ⟨W6, hW6⟩ : ∃ W6, W6 = wr.alloc (.cells #[.int .i64 e] 2) := ⟨_, rfl⟩
      rw [← hW6]
      have HS6 : Hid (SMem w5 W6 x3 x4 bg out) := by apply hide; rw [hW6]; exact HS.out.below (Grows.below (Grows.alloc wr _))
      have HX6 : Hid (EBx W6 wr.heap.size e x3 x4) := by apply hide; rw [hW6]; exact EBx.new HS.out (BxA.new wr _ _)
      obtain ⟨B, hB⟩ : ∃ B, B = wr.heap.size := ⟨_, rfl⟩
      rw [← hB] at HX6 ⊢
      clear hW6 hB HS p5
      go_loopg [0, 4] n (fun ky y0 y4 wr => ∃ (d : Nat) (bd : List K3) (z0 z4 : Value), z0 = y0 ∧ z4 = y4 ∧ n - d ≤ ky ∧ Hid (StJ ks e d bd) ∧ Hid (SMem w5 wr x3 z4 bd out) ∧ Hid (EBx wr B e x3 z4) ∧ Hid (Cm w z0 (ks.drop d)))
      case atStart => exact ⟨c, bg, _, _, rfl, rfl, by omega, HJ, HS6, HX6, HK⟩
      case round =>
        obtain ⟨d, bd, z0, z4, rfl, rfl, hky, HJd, HSd, HXd, HKd⟩ := hrel
        have HBi : Hid (RowKit.Below w.heap.size w wr) := by apply hide; exact HB5.out.trans (HSd.out.bel.mono HB5.out.size)
        have eb := fun nq os => gro_cell (HXd.out.box.cell 0 _ rfl) nq os
        by_cases hgo : ∃ hc : d < ks.length, ks[d].1 = e
        · obtain ⟨hd, hk1⟩ := hgo
          have hdr : ks.drop d = ks[d] :: ks.drop (d + 1) := List.drop_eq_getElem_cons hd
          have HJp := hide (HJd.out.put HC.out hd hk1)
          obtain ⟨k, hk⟩ : ∃ k, k = ks[d] := ⟨_, rfl⟩
          obtain ⟨l, hl⟩ : ∃ l, l = ks.drop (d + 1) := ⟨_, rfl⟩
          rw [hdr, ← hk, ← hl] at HKd
          rw [← hk] at HJp hk1
          obtain ⟨a, cap, rfl, hlc, hcm, hcs⟩ := HKd.out.ex
          obtain ⟨b, o, rfl, hcell⟩ := hcs (by simp)
          obtain ⟨q0, q1, q2⟩ := hcell 0 (by simp)
          simp only [Nat.zero_mul, Nat.add_zero, List.getElem_cons_zero] at q0 q1 q2
          have r0 := fun nq os => gro_cell ((HBi.out.cell (World.block_lt_of_cell? _ _ q0)).trans q0) nq os
          have r1 := fun nq os => gro_cell ((HBi.out.cell (World.block_lt_of_cell? _ _ q1)).trans q1) nq os
          have r2 := fun nq os => gro_cell ((HBi.out.cell (World.block_lt_of_cell? _ _ q2)).trans q2) nq os
          have HTl := hide HKd.out.tail
          have hfd : bd.length ≤ 100000 := by have h1 := HJd.out.len; have h2 := HN.out; omega
          have hdn : d < n := by have h2 := HN.out; omega
          obtain ⟨t, ht⟩ : ∃ t, t = l.length := ⟨_, rfl⟩
          rw [List.length_cons, ← ht] at hlc HTl
          rw [List.length_cons, ← ht]
          have HL := hide hl
          have HT := hide ht
          unfold maxLen at hcm
          obtain ⟨k1, k2, k3⟩ := k
          simp only at hk1 r0 r1 r2
          subst hk1
          clear q0 q1 q2 hcell hcs hdr hl ht hk
          go_wp2_with fail
          refine wp_region_quiet_grown (by assumption) (by kernel_rfl) ?_
          repeat (go_big_quiet_step (first | fail))
          refine wpQuiet_nil ?_
          intro V hw'
          obtain ⟨⟨nq, osq⟩, hw''⟩ := hw'
          have r0' := r0 nq osq
          have r1' := r1 nq osq
          have r2' := r2 nq osq
          have hV := gro_below wr nq osq
          rw [← hw''] at r0' r1' r2' hV
          have HSV := hide (HSd.out.below hV)
          have HXV := hide (HXd.out.below hV)
          have kP := putIn_any V w5.heap.size z4 bd (k1, k2, k3) HSV.out.row HJd.out.rk HSV.out.bel.size hfd
          unfold kv at kP
          simp only at kP
          clear hw'' r0 r1 r2 hV eb
          go_wp2_with fail
          refine kP.mono ?_
          rintro ev w7 hI7
          obtain ⟨z4', rfl, hrow7, hnw7⟩ := hI7.ex
          have HS7 := hide (HSV.out.put hI7 hrow7 hnw7)
          have HX7 := hide (HXV.out.put hI7.gr hnw7)
          clear hI7 hrow7 hnw7 kP
          by_cases hcap : cap = 1
          · have ht0 : t = 0 := by omega
            subst hcap
            subst ht0
            go_wp2_with fail
            go_roundg (n - (d + 1))
            case measure => omega
            case rel =>
              refine ⟨d + 1, _, _, _, rfl, rfl, Nat.le_refl _, HJp, HS7, HX7, ?_⟩
              apply hide
              have hl0 : l = [] := List.eq_nil_of_length_eq_zero HT.out.symm
              rw [← HL.out, hl0]
              exact Cm.none (by simp [maxLen])
          · go_wp2_with fail
            go_roundg (n - (d + 1))
            case measure => omega
            case rel =>
              refine ⟨d + 1, _, _, _, rfl, rfl, Nat.le_refl _, HJp, HS7, HX7, ?_⟩
              apply hide
              rw [← HL.out]
              exact HTl.out
        · have HR : Hid (∀ k ∈ ks.drop d, e < k.1) := by apply hide; exact HJd.out.rest HC.out fun hc q => hgo ⟨hc, q⟩
          by_cases hd : d < ks.length
          · have hdr : ks.drop d = ks[d] :: ks.drop (d + 1) := List.drop_eq_getElem_cons hd
            have hk1 : ¬ ks[d].1 = e := fun q => hgo ⟨hd, q⟩
            have HKd0 : Hid (Cm w z0 (ks.drop d)) := HKd
            obtain ⟨k, hk⟩ : ∃ k, k = ks[d] := ⟨_, rfl⟩
            obtain ⟨l, hl⟩ : ∃ l, l = ks.drop (d + 1) := ⟨_, rfl⟩
            rw [hdr, ← hk, ← hl] at HKd
            rw [← hk] at hk1
            obtain ⟨a, cap, rfl, hlc, hcm, hcs⟩ := HKd.out.ex
            obtain ⟨b, o, rfl, hcell⟩ := hcs (by simp)
            obtain ⟨q0, q1, q2⟩ := hcell 0 (by simp)
            simp only [Nat.zero_mul, Nat.add_zero, List.getElem_cons_zero] at q0 q1 q2
            have r0 := fun nq os => gro_cell ((HBi.out.cell (World.block_lt_of_cell? _ _ q0)).trans q0) nq os
            obtain ⟨t, ht⟩ : ∃ t, t = l.length := ⟨_, rfl⟩
            rw [List.length_cons, ← ht] at hlc HKd0
            rw [List.length_cons, ← ht]
            unfold maxLen at hcm
            obtain ⟨k1, k2, k3⟩ := k
            simp only at hk1 r0
            clear q0 q1 q2 hcell hcs hdr hl ht hk hgo HKd
            go_wp2_with fail
            refine wp_region_quiet_grown (by assumption) (by kernel_rfl) ?_
            repeat (go_big_quiet_step (first | fail))
            refine wpQuiet_nil ?_
            intro V hw'
            obtain ⟨⟨nq, osq⟩, hw''⟩ := hw'
            have hV := gro_below wr nq osq
            rw [← hw''] at hV
            have HSV := hide (HSd.out.below hV)
            have HXV := hide (HXd.out.below hV)
            have kI := idx_any V B e z4 bd HSV.out.row.rds (HXV.out.box.cell 0 _ rfl)
            clear hw'' hV eb HSd HXd
            go_wp2_with fail
            refine kI.mono ?_
            rintro ev w8 ⟨r, rfl, hf, g8⟩
            have HS8 := hide (HSV.out.below g8.below)
            have HX8 := hide (HXV.out.below g8.below)
            clear g8 HSV HXV kI
            rcases hf with ⟨i, hi, rfl, h1, h2⟩ | ⟨rfl, h2⟩
            · have hG : ∃ h1 : j + 1 < E.length, StI ks E M (j + 1) d (bd.drop i) (goF out bd[i] e E[j + 1]) := by
                have he := HE.out
                subst he
                exact StJ.goes HC.out HEd.out hjE HSay.out.1 HSay.out.2 HJd.out HR.out hi h1 h2
              obtain ⟨hj1, hI⟩ := hG
              have hj1m : j + 1 < m := by have := HM.out; omega
              obtain ⟨g, go, gcap, rfl, hglc, hgcm, hcut, hxcut, c0, c1, c2⟩ := HS8.out.cut i hi
              have HScut := hide hcut
              have HXcut := hide (hxcut e B HX8.out)
              have p6 : w8.cell? ⟨b5, j + 1, none⟩ = some (.int .i64 E[j + 1]) := (HS8.out.bel.cell (by exact hb5')).trans (HC5.out (j + 1) hj1)
              have p7 := HX8.out.box.cell 0 _ rfl
              obtain ⟨K, hK⟩ : ∃ K, K = bd[i] := ⟨_, rfl⟩
              obtain ⟨e2, he2⟩ : ∃ e2, e2 = E[j + 1] := ⟨_, rfl⟩
              obtain ⟨bn, hbn⟩ : ∃ bn, bn = bd.length := ⟨_, rfl⟩
              rw [← hK, ← he2] at hI
              rw [← hK] at c0 c1 c2
              rw [← he2] at p6
              rw [← hbn] at hglc HScut HXcut hi
              rw [← hbn]
              have HI2 := hide hI
              obtain ⟨k1', k2', k3'⟩ := K
              simp only at c0 c1 c2
              unfold maxLen at hgcm
              have z1 : ¬ gcap = i := by omega
              have z2 : (i : Int) ≤ (bn : Int) := by omega
              have z3 : ¬ ((i : Int) < 0) := by omega
              have z4' : (i : Int) ≤ (gcap : Int) := by omega
              have z5 : ((j : Int) + 1) < (m : Int) := by omega
              have z6 : (0 : Int) < ((bn - i : Nat) : Int) := by omega
              have z7 : 0 < bn - i := by omega
              have hol : out.length ≤ 200000 := by have := HSay.out.2; omega
              clear hcut hxcut hK he2 hbn hI h1 h2 HS8 HX8
              go_wp2_with fail
              have s0 := fun nq os => gro_cell c0 nq os
              have s1 := fun nq os => gro_cell c1 nq os
              have s2 := fun nq os => gro_cell c2 nq os
              have s3 := fun nq os => gro_cell p6 nq os
              have s4 := fun nq os => gro_cell p7 nq os
              clear c0 c1 c2 p6 p7
              refine wp_region_first_grown 11 2 (by assumption) rfl (by kernel_rfl) (by kernel_rfl) (by kernel_rfl) (by kernel_rfl) ?_
              simp only [List.take_succ_cons, List.take_zero]
              repeat (go_big_quiet_step (first | fail))
              refine wpQuiet_nil ?_
              intro V2 hw'
              obtain ⟨⟨nq, osq⟩, hw''⟩ := hw'
              have hV2 := gro_below w8 nq osq
              rw [← hw''] at hV2
              have HS9 := hide (HScut.out.below hV2)
              have kG := goOn_any V2 w5.heap.size x3 out (k1', k2', k3') e e2 HS9.out.out HS9.out.bel.size hol
              unfold kv at kG
              simp only at kG
              clear hw'' s0 s1 s2 s3 s4 hV2
              refine wpAny_ready (rs := [11]) (by kernel_rfl) (by simp) ?_
              refine AllReady.cons rfl (fun K hK => ?_) AllReady.nil
              go_simp
              go_at_call 45
              refine kG.mono ?_
              rintro e9 w9 ⟨v9, rfl, o9, b9, g9, n9⟩
              have HS10 := hide (HS9.out.go o9 b9 g9 n9)
              refine hK _ _ ?_
              clear hK K kG o9 b9 g9 n9
              refine wpAny_ready (rs := [12]) (by kernel_rfl) (by simp) ?_
              refine AllReady.cons rfl (fun K hK => ?_) AllReady.nil
              go_simp
              refine hK _ _ ?_
              clear hK K
              refine wpAny_done (by kernel_rfl) ?_ _
              go_wp2_with fail
              go_roundg (m - (j + 1))
              case measure => omega
              case rel => exact ⟨j + 1, d, bd.drop i, _, _, _, _, rfl, rfl, rfl, by first | (rw [HW1.out]; rfl) | rfl, by omega, Nat.le_refl _, HI2, HS10, HKd0⟩
            · have hI : StI ks E M (j + 1) d [] out := by
                have he := HE.out
                subst he
                exact StJ.skip HC.out HEd.out hjE HSay.out.1 HSay.out.2 HJd.out HR.out h2
              have HI2 := hide hI
              have HSn := hide HS8.out.nil
              clear hI h2
              go_wp2_with fail
              go_roundg (m - (j + 1))
              case measure => omega
              case rel => exact ⟨j + 1, d, [], out, _, _, _, rfl, rfl, rfl, by first | (rw [HW1.out]; rfl) | rfl, by omega, Nat.le_refl _, HI2, HSn, HKd0⟩
          · have hdr : ks.drop d = [] := List.drop_of_length_le (by omega)
            have HKd0 : Hid (Cm w z0 (ks.drop d)) := HKd
            rw [hdr] at HKd
            obtain ⟨a, cap, rfl, hlc, hcm, hcs⟩ := HKd.out.ex
            simp only [List.length_nil] at HKd0 ⊢
            clear hcs hdr HKd hgo
            go_wp2_with fail
            refine wp_region_quiet_grown (by assumption) (by kernel_rfl) ?_
            repeat (go_big_quiet_step (first | fail))
            refine wpQuiet_nil ?_
            intro V hw'
            obtain ⟨⟨nq, osq⟩, hw''⟩ := hw'
            have hV := gro_below wr nq osq
            rw [← hw''] at hV
            have HSV := hide (HSd.out.below hV)
            have HXV := hide (HXd.out.below hV)
            have kI := idx_any V B e z4 bd HSV.out.row.rds (HXV.out.box.cell 0 _ rfl)
            clear hw'' hV eb HSd HXd
            go_wp2_with fail
            refine kI.mono ?_
            rintro ev w8 ⟨r, rfl, hf, g8⟩
            have HS8 := hide (HSV.out.below g8.below)
            have HX8 := hide (HXV.out.below g8.below)
            clear g8 HSV HXV kI
            rcases hf with ⟨i, hi, rfl, h1, h2⟩ | ⟨rfl, h2⟩
            · have hG : ∃ h1 : j + 1 < E.length, StI ks E M (j + 1) d (bd.drop i) (goF out bd[i] e E[j + 1]) := by
                have he := HE.out
                subst he
                exact StJ.goes HC.out HEd.out hjE HSay.out.1 HSay.out.2 HJd.out HR.out hi h1 h2
              obtain ⟨hj1, hI⟩ := hG
              have hj1m : j + 1 < m := by have := HM.out; omega
              obtain ⟨g, go, gcap, rfl, hglc, hgcm, hcut, hxcut, c0, c1, c2⟩ := HS8.out.cut i hi
              have HScut := hide hcut
              have HXcut := hide (hxcut e B HX8.out)
              have p6 : w8.cell? ⟨b5, j + 1, none⟩ = some (.int .i64 E[j + 1]) := (HS8.out.bel.cell (by exact hb5')).trans (HC5.out (j + 1) hj1)
              have p7 := HX8.out.box.cell 0 _ rfl
              obtain ⟨K, hK⟩ : ∃ K, K = bd[i] := ⟨_, rfl⟩
              obtain ⟨e2, he2⟩ : ∃ e2, e2 = E[j + 1] := ⟨_, rfl⟩
              obtain ⟨bn, hbn⟩ : ∃ bn, bn = bd.length := ⟨_, rfl⟩
              rw [← hK, ← he2] at hI
              rw [← hK] at c0 c1 c2
              rw [← he2] at p6
              rw [← hbn] at hglc HScut HXcut hi
              rw [← hbn]
              have HI2 := hide hI
              obtain ⟨k1', k2', k3'⟩ := K
              simp only at c0 c1 c2
              unfold maxLen at hgcm
              have z1 : ¬ gcap = i := by omega
              have z2 : (i : Int) ≤ (bn : Int) := by omega
              have z3 : ¬ ((i : Int) < 0) := by omega
              have z4' : (i : Int) ≤ (gcap : Int) := by omega
              have z5 : ((j : Int) + 1) < (m : Int) := by omega
              have z6 : (0 : Int) < ((bn - i : Nat) : Int) := by omega
              have z7 : 0 < bn - i := by omega
              have hol : out.length ≤ 200000 := by have := HSay.out.2; omega
              clear hcut hxcut hK he2 hbn hI h1 h2 HS8 HX8
              go_wp2_with fail
              have s0 := fun nq os => gro_cell c0 nq os
              have s1 := fun nq os => gro_cell c1 nq os
              have s2 := fun nq os => gro_cell c2 nq os
              have s3 := fun nq os => gro_cell p6 nq os
              have s4 := fun nq os => gro_cell p7 nq os
              clear c0 c1 c2 p6 p7
              refine wp_region_first_grown 11 2 (by assumption) rfl (by kernel_rfl) (by kernel_rfl) (by kernel_rfl) (by kernel_rfl) ?_
              simp only [List.take_succ_cons, List.take_zero]
              repeat (go_big_quiet_step (first | fail))
              refine wpQuiet_nil ?_
              intro V2 hw'
              obtain ⟨⟨nq, osq⟩, hw''⟩ := hw'
              have hV2 := gro_below w8 nq osq
              rw [← hw''] at hV2
              have HS9 := hide (HScut.out.below hV2)
              have kG := goOn_any V2 w5.heap.size x3 out (k1', k2', k3') e e2 HS9.out.out HS9.out.bel.size hol
              unfold kv at kG
              simp only at kG
              clear hw'' s0 s1 s2 s3 s4 hV2
              refine wpAny_ready (rs := [11]) (by kernel_rfl) (by simp) ?_
              refine AllReady.cons rfl (fun K hK => ?_) AllReady.nil
              go_simp
              go_at_call 45
              refine kG.mono ?_
              rintro e9 w9 ⟨v9, rfl, o9, b9, g9, n9⟩
              have HS10 := hide (HS9.out.go o9 b9 g9 n9)
              refine hK _ _ ?_
              clear hK K kG o9 b9 g9 n9
              refine wpAny_ready (rs := [12]) (by kernel_rfl) (by simp) ?_
              refine AllReady.cons rfl (fun K hK => ?_) AllReady.nil
              go_simp
              refine hK _ _ ?_
              clear hK K
              refine wpAny_done (by kernel_rfl) ?_ _
              go_wp2_with fail
              go_roundg (m - (j + 1))
              case measure => omega
              case rel => exact ⟨j + 1, d, bd.drop i, _, _, _, _, rfl, rfl, rfl, by first | (rw [HW1.out]; rfl) | rfl, by omega, Nat.le_refl _, HI2, HS10, HKd0⟩
            · have hI : StI ks E M (j + 1) d [] out := by
                have he := HE.out
                subst he
                exact StJ.skip HC.out HEd.out hjE HSay.out.1 HSay.out.2 HJd.out HR.out h2
              have HI2 := hide hI
              have HSn := hide HS8.out.nil
              clear hI h2
              go_wp2_with fail
              go_roundg (m - (j + 1))
              case measure => omega
              case rel => exact ⟨j + 1, d, [], out, _, _, _, rfl, rfl, rfl, by first | (rw [HW1.out]; rfl) | rfl, by omega, Nat.le_refl _, HI2, HSn, HKd0⟩
    · have hltz : ¬ (j : Int) < (m : Int) := by omega
      have hjm : j = E.length := by have := HM.out; omega
      have HF : Hid (Say ks out M ∧ out.length ≤ 2 * ks.length) := by
        apply hide
        have h1 := HI.out.ol
        have h2 := HN.out
        have h3 := HI.out
        rw [hjm] at h3
        exact ⟨h3.fin, by omega⟩
      go_wp2_with fail
      go_ret
      exact ⟨_, rfl, out, HS.out.out.mono HB5.out.size, HF.out.1, HF.out.2, HB5.out.trans (HS.out.bel.mono HB5.out.size)⟩
end Go.Proofs.Ytgbmigfamefenaa
