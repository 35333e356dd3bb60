/- LineOne, the walk. -/
import Derived.Test.YtgbmigfamefenaaPuF
namespace Go.Proofs.Ytgbmigfamefenaa
open Go.Shelf Go.RowKit Go.Maps Go.Sort
set_option linter.unusedVariables false

theorem seg_dec (g1 g2 g3 g4 g5 x1 x2 x3 x4 x5 : Int) : (decide (g1 = x1) && (decide (g2 = x2) && decide (g3 = x3)) && (decide (g4 = x4) && decide (g5 = x5))) = decide ((((g1, g2, g3), g4, g5) : Sg) = ((x1, x2, x3), x4, x5)) := by
  rw [Bool.eq_iff_iff]
  simp only [Bool.and_eq_true, decide_eq_true_eq, Prod.mk.injEq]
set_option maxRecDepth 100000 in
set_option maxHeartbeats 25600000 in
theorem one_walk (w : World) (v : Value) (raw : List Sg) (h : Sgr w v raw) (hB : ∀ g ∈ raw, B5 g) (hb : raw.length * 40 ≤ 140737488351232) (sp : Int × Int) (hsp : In64 sp.1 ∧ In64 sp.2) :
    Calls Try.prog 3 #[v, .agg #[.int .i64 sp.1, .int .i64 sp.2]] w fun e w' => e = .returned (.bool true) ∧ Below w.heap.size w w' := by
  have mixed : Try.prog.follows .mixedOrders = true := by kernel_rfl
  obtain ⟨sa, sb⟩ := sp
  simp only
  obtain ⟨W, hW⟩ : ∃ W, W = w.alloc (.cells #[.int .i64 sa, .int .i64 sb] 24) := ⟨_, rfl⟩
  have hBW : Below w.heap.size w W := by rw [hW]; exact (Grows.alloc _ _).below
  have hSX : BxA W w.heap.size 24 #[.int .i64 sa, .int .i64 sb] := by rw [hW]; exact BxA.new _ _ _
  have kW := awake_any W
  have HR := hide (h.up hBW)
  have HB5 := hide hB
  have HBW := hide hBW
  have HSX := hide hSX
  have HW := hide hW
  obtain ⟨b3, hb3⟩ : ∃ b, b = w.heap.size := ⟨_, rfl⟩
  rw [← hb3] at HSX
  have HB3E := hide hb3
  clear h hB hb hsp hW hBW hSX hb3
  go_enter Try.func3, Try.ntmps3
  go_wp2_with fail
  rw [← HW.out]
  refine kW.mono ?_
  rintro ev w1 ⟨rfl, b1⟩
  have HB1 : Hid (Below w.heap.size w w1) := HBW.out.trans (b1.mono HBW.out.size)
  have HS1 := hide (HSX.out.up b1)
  have kM := made_any w1 v raw 40 (HR.out.up b1) HB5.out (Nat.le_refl _)
  clear kW b1
  go_wp2_with fail
  refine kM.mono ?_
  rintro ev w2 ⟨t, F, s, vl, l, rfl, hmd, hll⟩
  have HMD := hide hmd
  have HB2 : Hid (Below w.heap.size w w2) := HB1.out.trans (hmd.bel.mono HB1.out.size)
  have HS2 := hide (HS1.out.up hmd.bel)
  have kL := lookup_any w2 t F s sa sb hmd.tl hmd.wf (by have := hmd.len.1; omega) (fun e he => by have := hmd.len.2 e he; omega)
  have cx0 := HS2.out.cell 0 _ rfl
  have cx1 := HS2.out.cell 1 _ rfl
  clear kM hmd
  go_upto_region 5 with fail
  rw [← HB3E.out]
  go_wp2_with fail
  refine kL.mono ?_
  rintro ev w3 ⟨vp, rfl, out, sy, o3, b3'⟩
  obtain ⟨p, hp⟩ : ∃ p, p = lkF s (cutS sa sb out) := ⟨_, rfl⟩
  have hcut := cut_of HMD.out.wf sy
  have hpl : p.length ≤ 1000 := by rw [hp]; exact lk_len HMD.out.wf HMD.out.pm HMD.out.few hll hcut
  have hsay := one_say HMD.out.wf HMD.out.pm hcut
  rw [← hp] at o3 hsay
  have HM3 : Hid (Md w1 w3 t F s vl l) := HMD.out.below b3'
  have HB3 : Hid (Below w.heap.size w w3) := HB2.out.trans (b3'.mono HB2.out.size)
  have HS3 := hide (HS2.out.up b3')
  have HSAY := hide hsay
  have hpg := Pgr.of o3
  have hsg := Sgr.of HM3.out.own
  obtain ⟨la, lc, hvl, hl1, hl2, hl3⟩ := hsg.ex
  obtain ⟨pa, pc, hvp, hp1, hp2, hp3⟩ := hpg.ex
  have HSG := hide hsg
  have HL3 := hide hl3
  have HP3 := hide hp3
  obtain ⟨n, hn⟩ : ∃ n, n = l.length := ⟨_, rfl⟩
  obtain ⟨m, hm⟩ : ∃ m, m = p.length := ⟨_, rfl⟩
  rw [← hn] at hvl hl1 hll
  rw [← hm] at hvp hp1 hpl
  have HN := hide hn
  have HM := hide hm
  unfold maxLen at hl2 hp2
  clear kL sy o3 b3' hpg hsg hl3 hp3 hp hn hm hsay hcut cx0 cx1
  subst hvp
  subst hvl
  go_wp2_with fail
  go_loopg [9, 10, 11, 12, 13] m (fun kx v9 _ _ _ _ wr => ∃ (i : Nat), v9 = .int .i64 (i : Int) ∧ i ≤ m ∧ m - i ≤ kx ∧ Hid (Grows w3 wr))
  case atStart => exact ⟨0, rfl, Nat.zero_le _, Nat.le_refl _, Grows.refl _⟩
  case round =>
    obtain ⟨i, rfl, hi, hkx, HGr⟩ := hrel
    by_cases hlt : i < m
    · have hltz : (i : Int) < (m : Int) := by omega
      have hil : i < p.length := by have := HM.out; omega
      obtain ⟨pb, po, rfl, hpat⟩ := HP3.out (by omega)
      have hx := (hpat i hil).up HGr.out.below
      have hone := HSAY.out.1 _ (List.getElem_mem hil)
      obtain ⟨x, hxe⟩ : ∃ x, x = p[i] := ⟨_, rfl⟩
      have HXE := hide hxe
      rw [← hxe] at hx hone
      obtain ⟨⟨⟨x1, x2, x3⟩, x4, x5⟩, x6, x7⟩ := x
      have d0 := hx.g.c0
      have d1 := hx.g.c1
      have d2 := hx.g.c2
      have d3 := hx.g.c3
      have d4 := hx.g.c4
      have d5 := hx.c5
      have d6 := hx.c6
      simp only at d0 d1 d2 d3 d4 d5 d6
      have HONE := hide hone
      obtain ⟨W10, hW10⟩ : ∃ W10, W10 = wr.alloc (.cells #[.int .i64 x1, .int .i64 x2, .int .i64 x3, .int .i64 x4, .int .i64 x5, .int .i64 x6, .int .i64 x7] 34) := ⟨_, rfl⟩
      have HX10 : Hid (BxA W10 wr.heap.size 34 #[.int .i64 x1, .int .i64 x2, .int .i64 x3, .int .i64 x4, .int .i64 x5, .int .i64 x6, .int .i64 x7]) := by apply hide; rw [hW10]; exact BxA.new _ _ _
      have HG10 : Hid (Grows w3 W10) := by apply hide; rw [hW10]; exact HGr.out.trans (Grows.alloc _ _)
      have HW10 := hide hW10
      have HW1 : Hid (wrap64 ((i : Int) + 1) = (i : Int) + 1) := by apply hide; rw [← IntWalk.i64_left, IntKind.wrap_i64]; omega
      obtain ⟨b10, hb10⟩ : ∃ b, b = wr.heap.size := ⟨_, rfl⟩
      have HB10 := hide hb10
      rw [← hb10] at HX10
      clear hx hone hxe hpat hW10 hb10
      go_upto_region 12 with fail
      rw [← HW10.out, ← HB10.out]
      clear d0 d1 d2 d3 d4 d5 d6
      go_loopg [11, 12] n (fun kx2 v11 v12 wq => ∃ (k : Nat), v12 = .int .i64 (k : Int) ∧ k ≤ n ∧ n - k ≤ kx2 ∧ v11 = .bool ((l.take k).any (fun y => decide (y = ((x1, x2, x3), x4, x5)))) ∧ Hid (Grows W10 wq))
      case atStart => exact ⟨0, rfl, Nat.zero_le _, Nat.le_refl _, rfl, Grows.refl _⟩
      case round =>
        rename World => wq
        obtain ⟨k, rfl, hk, hkx2, rfl, HG⟩ := hrel
        by_cases hkl : k < n
        · have hkz : (k : Int) < (n : Int) := by omega
          have hkp : k < l.length := by have := HN.out; omega
          obtain ⟨lb, lo, rfl, hat⟩ := HL3.out (by omega)
          have ha := (hat k hkp).up (HG10.out.trans HG.out).below
          have htk := any_take (P := fun y : Sg => decide (y = ((x1, x2, x3), x4, x5))) hkp
          have hno0 := HONE.out.no _ (List.getElem_mem hkp)
          have hfw := HM3.out.few _ (List.getElem_mem hkp)
          obtain ⟨g, hg⟩ : ∃ g, g = l[k] := ⟨_, rfl⟩
          rw [← hg] at ha htk hno0 hfw
          obtain ⟨b0, hb0⟩ : ∃ b, b = (l.take k).any (fun y => decide (y = ((x1, x2, x3), x4, x5))) := ⟨_, rfl⟩
          rw [← hb0] at htk ⊢
          have hsgq := HSG.out.up (HG10.out.trans HG.out).below
          rw [HN.out] at hsgq
          have kA0 : ∀ w' : World, _ := fun w' => ahead_any w' g (((x1, x2, x3), x4, x5) : Sg)
          have kW0 : ∀ w' : World, Grows wq w' → _ := fun w' hw' => whole_any w' (.slice (some ⟨lb, lo, none⟩) l.length lc) l g (hsgq.up hw'.below) (by have := HN.out; omega) (by have := hfw.co; omega)
          rw [← HN.out] at kW0
          obtain ⟨qa, hqa⟩ : ∃ q, q = decide (Ahd g.1 (x1, x2, x3)) := ⟨_, rfl⟩
          obtain ⟨qw, hqw⟩ : ∃ q, q = whB l g := ⟨_, rfl⟩
          simp only [← hqa] at kA0
          simp only [← hqw] at kW0
          have hno : (¬ g.1.1 < x7) ∨ (g.1.1 < x7 ∧ ¬ x6 < g.1.2.1) ∨ (g.1.1 < x7 ∧ x6 < g.1.2.1 ∧ qa = false) ∨ (g.1.1 < x7 ∧ x6 < g.1.2.1 ∧ qa = true ∧ qw = false) := by
            by_cases r1 : g.1.1 < x7
            · by_cases r2 : x6 < g.1.2.1
              · cases qa
                · exact .inr (.inr (.inl ⟨r1, r2, rfl⟩))
                · cases qw
                  · exact .inr (.inr (.inr ⟨r1, r2, rfl, rfl⟩))
                  · exact absurd ⟨r1, r2, of_decide_eq_true hqa.symm, hqw.symm⟩ hno0
              · exact .inr (.inl ⟨r1, r2⟩)
            · exact .inl r1
          obtain ⟨⟨g1, g2, g3⟩, g4, g5⟩ := g
          simp only at kA0 kW0 hno
          have HTK := hide htk
          have HKA := hide kA0
          have HKW := hide kW0
          have HNO := hide hno
          have HAT : Hid (∀ w', Grows wq w' → AtG w' lb (lo + k * 5) ((g1, g2, g3), g4, g5)) := fun w' hw' => ha.up hw'.below
          have HXQ : Hid (∀ w', Grows wq w' → BxA w' b10 34 #[.int .i64 x1, .int .i64 x2, .int .i64 x3, .int .i64 x4, .int .i64 x5, .int .i64 x6, .int .i64 x7]) := fun w' hw' => (HX10.out.up HG.out.below).up hw'.below
          have HW2 : Hid (wrap64 ((k : Int) + 1) = (k : Int) + 1) := by apply hide; rw [← IntWalk.i64_left, IntKind.wrap_i64]; omega
          clear ha hg hb0 htk hat hno0 hfw hsgq kA0 kW0 hqa hqw hno
          go_upto_region 14 with fail
          go_cut [11] (fun t11 wx => t11 = .bool (b0 || decide ((((g1, g2, g3), g4, g5) : Sg) = ((x1, x2, x3), x4, x5))) ∧ Hid (Grows wq wx))
          case first =>
            have z0 := fun nq os => gro_cell (HAT.out wq (Grows.refl _)).c0 nq os
            have z1 := fun nq os => gro_cell (HAT.out wq (Grows.refl _)).c1 nq os
            have z2 := fun nq os => gro_cell (HAT.out wq (Grows.refl _)).c2 nq os
            have z3 := fun nq os => gro_cell (HAT.out wq (Grows.refl _)).c3 nq os
            have z4 := fun nq os => gro_cell (HAT.out wq (Grows.refl _)).c4 nq os
            have y0 := fun nq os => gro_cell ((HXQ.out wq (Grows.refl _)).cell 0 _ rfl) nq os
            have y1 := fun nq os => gro_cell ((HXQ.out wq (Grows.refl _)).cell 1 _ rfl) nq os
            have y2 := fun nq os => gro_cell ((HXQ.out wq (Grows.refl _)).cell 2 _ rfl) nq os
            have y3 := fun nq os => gro_cell ((HXQ.out wq (Grows.refl _)).cell 3 _ rfl) nq os
            have y4 := fun nq os => gro_cell ((HXQ.out wq (Grows.refl _)).cell 4 _ rfl) nq os
            simp only at z0 z1 z2 z3 z4
            have hsplit : b0 = true ∨ (b0 = false ∧ (¬ g1 = x1 ∨ (g1 = x1 ∧ ¬ g2 = x2) ∨ (g1 = x1 ∧ g2 = x2 ∧ ¬ g3 = x3) ∨ (g1 = x1 ∧ g2 = x2 ∧ g3 = x3 ∧ ¬ g4 = x4) ∨ (g1 = x1 ∧ g2 = x2 ∧ g3 = x3 ∧ g4 = x4 ∧ ¬ g5 = x5) ∨ (g1 = x1 ∧ g2 = x2 ∧ g3 = x3 ∧ g4 = x4 ∧ g5 = x5))) := by
              cases b0
              · right
                refine ⟨rfl, ?_⟩
                omega
              · left; rfl
            clear HTK HKA HKW HNO HAT HXQ HONE HXE
            have HG : Hid (Grows wq wq) := Grows.refl _
            obtain ⟨W10, hW10'⟩ : ∃ X, X = wq := ⟨_, rfl⟩
            subst hW10'
            rcases hsplit with rfl | ⟨rfl, h1 | ⟨rfl, h1⟩ | ⟨rfl, rfl, h1⟩ | ⟨rfl, rfl, rfl, h1⟩ | ⟨rfl, rfl, rfl, rfl, h1⟩ | ⟨rfl, rfl, rfl, rfl, rfl⟩⟩
            · refine wp_region_quiet_grown (by assumption) (by kernel_rfl) ?_
              repeat (go_big_quiet_step (first | fail))
              refine wpQuiet_nil ?_
              intro V hw'
              obtain ⟨⟨nq, osq⟩, hw''⟩ := hw'
              have HGV : Hid (Grows W10 V) := by apply hide; rw [hw'']; exact HG.out.trans ⟨nq, osq, rfl⟩
              clear hw''
              go_wp2_with fail
              go_meet
              case rel => exact ⟨by simp, HGV⟩
            · have e1 : (g1 == x1) = false := by simpa using h1
              refine wp_region_quiet_grown (by assumption) (by kernel_rfl) ?_
              repeat (go_big_quiet_step (first | fail))
              refine wpQuiet_nil ?_
              intro V hw'
              obtain ⟨⟨nq, osq⟩, hw''⟩ := hw'
              have HGV : Hid (Grows W10 V) := by apply hide; rw [hw'']; exact HG.out.trans ⟨nq, osq, rfl⟩
              clear hw''
              go_wp2_with fail
              go_meet
              case rel => exact ⟨by simp [h1], HGV⟩
            · have e1 : (g2 == x2) = false := by simpa using h1
              refine wp_region_quiet_grown (by assumption) (by kernel_rfl) ?_
              repeat (go_big_quiet_step (first | fail))
              refine wpQuiet_nil ?_
              intro V hw'
              obtain ⟨⟨nq, osq⟩, hw''⟩ := hw'
              have HGV : Hid (Grows W10 V) := by apply hide; rw [hw'']; exact HG.out.trans ⟨nq, osq, rfl⟩
              clear hw''
              go_wp2_with fail
              go_meet
              case rel => exact ⟨by simp [h1], HGV⟩
            · have e1 : (g3 == x3) = false := by simpa using h1
              refine wp_region_quiet_grown (by assumption) (by kernel_rfl) ?_
              repeat (go_big_quiet_step (first | fail))
              refine wpQuiet_nil ?_
              intro V hw'
              obtain ⟨⟨nq, osq⟩, hw''⟩ := hw'
              have HGV : Hid (Grows W10 V) := by apply hide; rw [hw'']; exact HG.out.trans ⟨nq, osq, rfl⟩
              clear hw''
              go_wp2_with fail
              go_meet
              case rel => exact ⟨by simp [h1], HGV⟩
            · have e1 : (g4 == x4) = false := by simpa using h1
              refine wp_region_quiet_grown (by assumption) (by kernel_rfl) ?_
              repeat (go_big_quiet_step (first | fail))
              refine wpQuiet_nil ?_
              intro V hw'
              obtain ⟨⟨nq, osq⟩, hw''⟩ := hw'
              have HGV : Hid (Grows W10 V) := by apply hide; rw [hw'']; exact HG.out.trans ⟨nq, osq, rfl⟩
              clear hw''
              go_wp2_with fail
              go_meet
              case rel => exact ⟨by simp [h1], HGV⟩
            · have e1 : (g5 == x5) = false := by simpa using h1
              refine wp_region_quiet_grown (by assumption) (by kernel_rfl) ?_
              repeat (go_big_quiet_step (first | fail))
              refine wpQuiet_nil ?_
              intro V hw'
              obtain ⟨⟨nq, osq⟩, hw''⟩ := hw'
              have HGV : Hid (Grows W10 V) := by apply hide; rw [hw'']; exact HG.out.trans ⟨nq, osq, rfl⟩
              clear hw''
              go_wp2_with fail
              go_meet
              case rel => exact ⟨by simp [h1], HGV⟩
            · refine wp_region_quiet_grown (by assumption) (by kernel_rfl) ?_
              repeat (go_big_quiet_step (first | fail))
              refine wpQuiet_nil ?_
              intro V hw'
              obtain ⟨⟨nq, osq⟩, hw''⟩ := hw'
              have HGV : Hid (Grows W10 V) := by apply hide; rw [hw'']; exact HG.out.trans ⟨nq, osq, rfl⟩
              clear hw''
              go_wp2_with fail
              go_meet
              case rel => exact ⟨by simp, HGV⟩
          case rest =>
            obtain ⟨rfl, HGX0⟩ := hcut
            have HGX : Hid (Grows W10 wc) := HG.out.trans HGX0.out
            have hatc := HAT.out wc HGX0.out
            have hxc := HXQ.out wc HGX0.out
            have z0 := fun nq os => gro_cell hatc.c0 nq os
            have z1 := fun nq os => gro_cell hatc.c1 nq os
            have z2 := fun nq os => gro_cell hatc.c2 nq os
            have z3 := fun nq os => gro_cell hatc.c3 nq os
            have z4 := fun nq os => gro_cell hatc.c4 nq os
            have y0 := fun nq os => gro_cell (hxc.cell 0 _ rfl) nq os
            have y1 := fun nq os => gro_cell (hxc.cell 1 _ rfl) nq os
            have y2 := fun nq os => gro_cell (hxc.cell 2 _ rfl) nq os
            have y3 := fun nq os => gro_cell (hxc.cell 3 _ rfl) nq os
            have y4 := fun nq os => gro_cell (hxc.cell 4 _ rfl) nq os
            have y5 := fun nq os => gro_cell (hxc.cell 5 _ rfl) nq os
            have y6 := fun nq os => gro_cell (hxc.cell 6 _ rfl) nq os
            simp only at z0 z1 z2 z3 z4
            have kA : ∀ nq os, _ := fun nq os => grown_at (w := wc) (fun w' => HKA.out w') nq os
            have kW : ∀ nq os, _ := fun nq os => (HKW.out (Go.Sort.grow (wc.drewN nq) os) (HGX0.out.trans ⟨nq, os, rfl⟩)).mono fun _ _ ⟨h1, h2⟩ => (⟨h1, h2.ex⟩ : _ ∧ _)
            have hno := HNO.out
            clear hatc hxc
            go_upto_region 15 with fail
            rcases hno with h1 | ⟨h1, h2⟩ | ⟨h1, h2, rfl⟩ | ⟨h1, h2, rfl, rfl⟩
            · refine wp_region_quiet_grown (by assumption) (by kernel_rfl) ?_
              repeat (go_big_quiet_step (first | (go_at_call 12; with_reducible refine Calls.grown_of (kA _ _)) | (go_at_call 13; with_reducible refine Calls.grown_of (kW _ _))))
              refine wpQuiet_nil ?_
              intro V hw'
              obtain ⟨⟨nq, osq⟩, hw''⟩ := hw'
              have HGV : Hid (Grows W10 V) := by apply hide; rw [hw'']; exact HGX.out.trans ⟨nq, osq, rfl⟩
              clear hw''
              clear z0 z1 z2 z3 z4 y0 y1 y2 y3 y4 y5 y6 kA kW
              go_wp2_with fail
              go_roundg (n - (k + 1))
              case measure => omega
              case rel => exact ⟨k + 1, by first | (rw [HW2.out]; rfl) | rfl, hkl, Nat.le_refl _, by rw [HTK.out, ← seg_dec], HGV⟩
            · refine wp_region_quiet_grown (by assumption) (by kernel_rfl) ?_
              repeat (go_big_quiet_step (first | (go_at_call 12; with_reducible refine Calls.grown_of (kA _ _)) | (go_at_call 13; with_reducible refine Calls.grown_of (kW _ _))))
              refine wpQuiet_nil ?_
              intro V hw'
              obtain ⟨⟨nq, osq⟩, hw''⟩ := hw'
              have HGV : Hid (Grows W10 V) := by apply hide; rw [hw'']; exact HGX.out.trans ⟨nq, osq, rfl⟩
              clear hw''
              clear z0 z1 z2 z3 z4 y0 y1 y2 y3 y4 y5 y6 kA kW
              go_wp2_with fail
              go_roundg (n - (k + 1))
              case measure => omega
              case rel => exact ⟨k + 1, by first | (rw [HW2.out]; rfl) | rfl, hkl, Nat.le_refl _, by rw [HTK.out, ← seg_dec], HGV⟩
            · refine wp_region_quiet_grown (by assumption) (by kernel_rfl) ?_
              repeat (go_big_quiet_step (first | (go_at_call 12; with_reducible refine Calls.grown_of (kA _ _)) | (go_at_call 13; with_reducible refine Calls.grown_of (kW _ _))))
              refine wpQuiet_nil ?_
              intro V hw'
              obtain ⟨⟨nq, osq⟩, hw''⟩ := hw'
              have HGV : Hid (Grows W10 V) := by apply hide; rw [hw'']; exact HGX.out.trans ⟨nq, osq, rfl⟩
              clear hw''
              clear z0 z1 z2 z3 z4 y0 y1 y2 y3 y4 y5 y6 kA kW
              go_wp2_with fail
              go_roundg (n - (k + 1))
              case measure => omega
              case rel => exact ⟨k + 1, by first | (rw [HW2.out]; rfl) | rfl, hkl, Nat.le_refl _, by rw [HTK.out, ← seg_dec], HGV⟩
            · refine wp_region_quiet_grown (by assumption) (by kernel_rfl) ?_
              repeat (go_big_quiet_step (first | (go_at_call 12; with_reducible refine Calls.grown_of (kA _ _)) | (go_at_call 13; with_reducible refine Calls.grown_of (kW _ _))))
              refine wpQuiet_nil ?_
              intro V hw'
              obtain ⟨⟨nq, osq⟩, hw''⟩ := hw'
              have HGV : Hid (Grows W10 V) := by apply hide; rw [hw'']; exact HGX.out.trans ⟨nq, osq, rfl⟩
              clear hw''
              clear z0 z1 z2 z3 z4 y0 y1 y2 y3 y4 y5 y6 kA kW
              go_wp2_with fail
              go_roundg (n - (k + 1))
              case measure => omega
              case rel => exact ⟨k + 1, by first | (rw [HW2.out]; rfl) | rfl, hkl, Nat.le_refl _, by rw [HTK.out, ← seg_dec], HGV⟩
        · have hkz : ¬ (k : Int) < (n : Int) := by omega
          have hthere : (l.take k).any (fun y => decide (y = ((x1, x2, x3), x4, x5))) = true := by
            rw [List.take_of_length_le (by have := HN.out; omega), List.any_eq_true]
            exact ⟨_, HONE.out.there, by simp⟩
          rw [hthere]
          have hgl := HM3.out.few _ HONE.out.there
          have hsgq := HSG.out.up (HG10.out.trans HG.out).below
          rw [HN.out] at hsgq
          have kW2 := whole_any wq (.slice la l.length lc) l (((x1, x2, x3), x4, x5) : Sg) hsgq (by have := HN.out; omega) (by have := hgl.co; simp only at this ⊢; have := hgl.f0; omega)
          rw [HONE.out.wh, ← HN.out] at kW2
          have hxq := HX10.out.up HG.out.below
          have c0 := hxq.cell 0 _ rfl
          have c1 := hxq.cell 1 _ rfl
          have c2 := hxq.cell 2 _ rfl
          have c3 := hxq.cell 3 _ rfl
          have c4 := hxq.cell 4 _ rfl
          simp only at kW2
          clear hthere hgl hsgq
          go_wp2_with fail
          refine kW2.mono ?_
          rintro ev w5 ⟨rfl, g5'⟩
          have HG5 : Hid (Grows W10 w5) := HG.out.trans g5'
          have hx5 := HX10.out.up HG5.out.below
          have hs5 := HS3.out.up (HG10.out.trans HG5.out).below
          have e0 := hx5.cell 0 _ rfl
          have e1 := hx5.cell 1 _ rfl
          have e2 := hx5.cell 2 _ rfl
          have e3 := hx5.cell 3 _ rfl
          have e4 := hx5.cell 4 _ rfl
          have e5 := hx5.cell 5 _ rfl
          have e6 := hx5.cell 6 _ rfl
          have s0 := hs5.cell 0 _ rfl
          have s1 := hs5.cell 1 _ rfl
          have hne := HONE.out.ne
          have hlo := HONE.out.lo
          have hhi := HONE.out.hi
          simp only at hne hlo hhi
          have n1 : ¬ x7 ≤ x6 := by omega
          have n2 : ¬ x6 < max sa x1 := by omega
          have n3 : ¬ min sb x2 < x7 := by omega
          have HNE := hide hne
          clear kW2 g5' c0 c1 c2 c3 c4 hne hlo hhi hxq
          by_cases hi0 : i = 0
          · subst hi0
            go_wp2_with fail
            go_roundg (m - (0 + 1))
            case measure => omega
            case rel => exact ⟨1, by first | (rw [HW1.out]; rfl) | rfl, hlt, Nat.le_refl _, HG10.out.trans HG5.out⟩
          · obtain ⟨i', rfl⟩ : ∃ i', i = i' + 1 := ⟨i - 1, by omega⟩
            have hil' : i' < p.length := by have := HM.out; omega
            have hpw := List.pairwise_iff_getElem.1 HSAY.out.2 i' (i' + 1) hil' (by have := HM.out; omega) (by omega)
            rw [← HXE.out] at hpw
            have honey := (HSAY.out.1 _ (List.getElem_mem hil')).ne
            obtain ⟨pb', po', hpe, hpat⟩ := HP3.out (by have := HM.out; omega)
            cases hpe
            have hy := (hpat i' hil').up (HG10.out.trans HG5.out).below
            obtain ⟨y, hye⟩ : ∃ y, y = p[i'] := ⟨_, rfl⟩
            rw [← hye] at hy hpw honey
            obtain ⟨⟨⟨y1, y2, y3⟩, y4, y5⟩, y6, y7⟩ := y
            have d0 := hy.g.c0
            have d1 := hy.g.c1
            have d2 := hy.g.c2
            have d3 := hy.g.c3
            have d4 := hy.g.c4
            have d5 := hy.c5
            have d6 := hy.c6
            unfold NxtP at hpw
            simp only at d0 d1 d2 d3 d4 d5 d6 hpw honey
            have hi1 : (((i' + 1 : Nat) : Int) == 0) = false := by simp; omega
            have hi2 : IntKind.i64.wrap (((i' + 1 : Nat) : Int) - 1) = (i' : Int) := by rw [IntKind.wrap_i64]; omega
            have hi3 : wrap64 (((i' + 1 : Nat) : Int) - 1) = (i' : Int) := by rw [← IntWalk.i64_left]; exact hi2
            have hi4 : (i' : Int) < (m : Int) := by omega
            obtain ⟨W13, hW13⟩ : ∃ W13, W13 = w5.alloc (.cells #[.int .i64 y1, .int .i64 y2, .int .i64 y3, .int .i64 y4, .int .i64 y5, .int .i64 y6, .int .i64 y7] 34) := ⟨_, rfl⟩
            have hy13 : BxA W13 w5.heap.size 34 #[.int .i64 y1, .int .i64 y2, .int .i64 y3, .int .i64 y4, .int .i64 y5, .int .i64 y6, .int .i64 y7] := by rw [hW13]; exact BxA.new _ _ _
            have hg13 : Grows w5 W13 := by rw [hW13]; exact Grows.alloc _ _
            have hx13 := hx5.up hg13.below
            have HW13 := hide hW13
            have HG13 : Hid (Grows w3 W13) := (HG10.out.trans HG5.out).trans hg13
            have f0 := hx13.cell 0 _ rfl
            have f1 := hx13.cell 1 _ rfl
            have f2 := hx13.cell 2 _ rfl
            have f3 := hx13.cell 3 _ rfl
            have f4 := hx13.cell 4 _ rfl
            have f5 := hx13.cell 5 _ rfl
            have f6 := hx13.cell 6 _ rfl
            have k0 := hy13.cell 0 _ rfl
            have k1 := hy13.cell 1 _ rfl
            have k2 := hy13.cell 2 _ rfl
            have k3 := hy13.cell 3 _ rfl
            have k4 := hy13.cell 4 _ rfl
            have k5 := hy13.cell 5 _ rfl
            have k6 := hy13.cell 6 _ rfl
            have HPW := hide hpw
            have HYN := hide honey
            have HX13 := hide hx13
            have HY13 := hide hy13
            clear hy hye hpat hpw honey hW13 hg13 hx13 hy13 hx5 hs5 hi0 hil'
            go_upto_region 21 with fail
            rw [← HW13.out]
            clear d0 d1 d2 d3 d4 d5 d6 e0 e1 e2 e3 e4 e5 e6 s0 s1
            rcases HPW.out with ⟨q1, q2, q3⟩ | q1
            · have kO := one_any W13 (((y1, y2, y3), y4, y5) : Sg) (((x1, x2, x3), x4, x5) : Sg)
              simp only [Prod.mk.injEq] at q1 q2
              obtain ⟨rfl, rfl⟩ := q1
              obtain ⟨rfl, rfl, rfl⟩ := q2
              rw [decide_eq_true rfl] at kO
              simp only at kO
              have hge : ¬ x4 ≤ y4 := by omega
              go_wp2_with fail
              refine kO.mono ?_
              rintro ev w6 ⟨rfl, g6⟩
              have hx6 := HX13.out.up g6.below
              have hy6 := HY13.out.up g6.below
              have r3 := hx6.cell 3 _ rfl
              have r5 := hx6.cell 5 _ rfl
              have r6 := hx6.cell 6 _ rfl
              have t3 := hy6.cell 3 _ rfl
              have t5 := hy6.cell 5 _ rfl
              have t6 := hy6.cell 6 _ rfl
              have HG6 : Hid (Grows w3 w6) := HG13.out.trans g6
              clear kO g6 hx6 hy6 f0 f1 f2 f3 f4 f5 f6 k0 k1 k2 k3 k4 k5 k6
              go_wp2_with fail
              go_roundg (m - (i' + 1 + 1))
              case measure => omega
              case rel => exact ⟨i' + 1 + 1, by first | (rw [HW1.out]; rfl) | rfl, hlt, Nat.le_refl _, HG6⟩
            · have hyn := HYN.out
              have e1 : (y6 == x6) = false := by simp; omega
              have e2 : ¬ x6 < y7 := by omega
              clear hyn
              go_wp2_with fail
              go_roundg (m - (i' + 1 + 1))
              case measure => omega
              case rel => exact ⟨i' + 1 + 1, by first | (rw [HW1.out]; rfl) | rfl, hlt, Nat.le_refl _, HG13⟩
    · have hltz : ¬ (i : Int) < (m : Int) := by omega
      go_wp2_with fail
      go_ret
      exact ⟨rfl, HB3.out.trans (HGr.out.below.mono HB3.out.size)⟩
end Go.Proofs.Ytgbmigfamefenaa
