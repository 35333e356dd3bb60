/- LineCovered, the walk. -/
import Derived.Test.YtgbmigfamefenaaPuT
import Derived.Test.YtgbmigfamefenaaSme
import Derived.Test.YtgbmigfamefenaaRmR
namespace Go.Proofs.Ytgbmigfamefenaa
open Go.Shelf Go.RowKit Go.Maps Go.Sort
set_option linter.unusedVariables false

theorem AtG.fr {w w' : World} {F : Nat → Prop} {b o : Nat} {g : Sg} (h : AtG w b o g) (hb : Fr F w w') (hn : ¬ F b) : AtG w' b o g := by
  have up : ∀ o' u, w.cell? ⟨b, o', none⟩ = some u → w'.cell? ⟨b, o', none⟩ = some u := fun o' u hu => by
    rw [World.cell?_of_block (w := w) (hb.block b (World.block_lt_of_cell? _ _ hu) hn)]
    exact hu
  exact ⟨up _ _ h.c0, up _ _ h.c1, up _ _ h.c2, up _ _ h.c3, up _ _ h.c4⟩
theorem Sgr.fr {w w' : World} {F : Nat → Prop} {v : Value} {l : List Sg} (h : Sgr w v l) (hb : Fr F w w') (hn : ∀ r, v.ownBlock = some r → ¬ F r) : Sgr w' v l := by
  obtain ⟨a, c, h1, h2, h3, h4⟩ := h.ex
  refine ⟨a, c, h1, h2, h3, fun hp => ?_⟩
  obtain ⟨b, o, e, hc⟩ := h4 hp
  refine ⟨b, o, e, fun i hi => (hc i hi).fr hb (hn b ?_)⟩
  rw [h1, e]
  rfl
/-- A timeline that is changed, from a world on. -/
structure Cst (w4 wr : World) (t : Nat) (F3 : Nat → Prop) (s : List Es) : Prop where
  ex : ∃ F, Tl wr t F s ∧ (∀ j, F j → F3 j ∨ w4.heap.size ≤ j)
  fr : Fr F3 w4 wr
theorem Cst.up {w4 wr w' : World} {t : Nat} {F3 : Nat → Prop} {s : List Es} (h : Cst w4 wr t F3 s) (hb : Below wr.heap.size wr w') : Cst w4 w' t F3 s := by
  obtain ⟨F, h1, h2⟩ := h.ex
  exact ⟨⟨F, h1.below hb, h2⟩, h.fr.trans (Fr.of_below hb) fun _ _ h => h⟩
theorem Cst.step {w4 wr w' : World} {t : Nat} {F F3 F' : Nat → Prop} {s s' : List Es} (h : Cst w4 wr t F3 s) (h2 : ∀ j, F j → F3 j ∨ w4.heap.size ≤ j) (k : Tw wr w' t F s' F') : Cst w4 w' t F3 s' := by
  refine ⟨⟨F', k.tl, fun j hj => ?_⟩, h.fr.trans k.fr fun i hi hf => (h2 i hf).resolve_right (by omega)⟩
  rcases k.dn j hj with q | q
  · exact h2 j q
  · have := h.fr.size; exact .inr (by omega)
set_option maxRecDepth 100000 in
set_option maxHeartbeats 25600000 in
theorem cov_walk (w : World) (v : Value) (raw : List Sg) (h : Sgr w v raw) (hB : ∀ g ∈ raw, B5 g) (hb : raw.length * 40 ≤ 140737488351232) :
    Calls Try.prog 7 #[v] w fun e w' => e = .returned (.bool true) ∧ Below w.heap.size w w' := by
  have mixed : Try.prog.follows .mixedOrders = true := by kernel_rfl
  have kW := awake_any w
  have HR := hide h
  have HB5 := hide hB
  clear h hB hb
  go_enter Try.func7, Try.ntmps7
  go_wp2_with fail
  refine kW.mono ?_
  rintro ev w1 ⟨rfl, b1⟩
  have HB1 := hide b1
  have kM := made_any w1 v raw 40 (HR.out.up b1) HB5.out (Nat.le_refl _)
  clear kW b1
  go_wp2_with fail
  refine kM.mono ?_
  rintro ev w2 ⟨t, F3, s0, vl, l, rfl, hmd, hll⟩
  have HMD := hide hmd
  have HB2 : Hid (Below w.heap.size w w2) := HB1.out.trans (hmd.bel.mono HB1.out.size)
  obtain ⟨b10, hb10⟩ : ∃ b, b = w2.heap.size := ⟨_, rfl⟩
  obtain ⟨W7, hW7⟩ : ∃ W7, W7 = w2.alloc (.cells #[.int .i64 0, .int .i64 1099511627776] 24) := ⟨_, rfl⟩
  have hB7 : Below w2.heap.size w2 W7 := by rw [hW7]; exact (Grows.alloc _ _).below
  have hX7 : BxA W7 b10 24 #[.int .i64 0, .int .i64 1099511627776] := by rw [hW7, hb10]; exact BxA.new _ _ _
  have hm7 := hmd.below hB7
  have hlen : s0.length ≤ 40 ∧ ∀ e ∈ s0, e.2.2.length ≤ 40 := ⟨by have := hmd.len.1; omega, fun e he => by have := hmd.len.2 e he; omega⟩
  have HLEN := hide hlen
  have kL := lookup_any W7 t F3 s0 0 1099511627776 hm7.tl hm7.wf (by have := hlen.1; omega) (fun e he => by have := hlen.2 e he; omega)
  have HW7 := hide hW7
  have HB10 := hide hb10
  have HX7 := hide hX7
  have HM7 := hide hm7
  have HF3 : Hid (∀ i, F3 i → i < b10) := by intro i hi; have := hmd.tl.lt i hi; rw [hb10]; exact this
  have HB7 : Hid (Below w.heap.size w W7) := HB2.out.trans (hB7.mono HB2.out.size)
  have cx0 := hX7.cell 0 _ rfl
  have cx1 := hX7.cell 1 _ rfl
  clear kM hmd hW7 hb10 hX7 hm7 hB7 hlen
  go_upto_region 6 with fail
  rw [← HW7.out, ← HB10.out]
  go_wp2_with fail
  refine kL.mono ?_
  rintro ev w3 ⟨vp, rfl, out0, sy0, o3, b3⟩
  obtain ⟨p, hp⟩ : ∃ p, p = lkF s0 (cutS 0 1099511627776 out0) := ⟨_, rfl⟩
  have hpl : p.length ≤ 1000 := by rw [hp]; exact lk_len HMD.out.wf HMD.out.pm HMD.out.few hll (cut_of HMD.out.wf sy0)
  rw [← hp] at o3
  have HM3 := hide (HM7.out.below b3)
  have HX3 := hide (HX7.out.up b3)
  have HB3 : Hid (Below w.heap.size w w3) := HB7.out.trans (b3.mono HB7.out.size)
  have HPG := hide (Pgr.of o3)
  have HPB : Hid (∀ r, vp.ownBlock = some r → b10 < r) := by
    intro r hr
    have h1 := (own_lt o3 r hr).1
    have h2 := HX7.out.lt
    omega
  have HSY := hide sy0
  have HPE := hide hp
  have HPL := hide hpl
  have kV := vis_any w3 t F3 s0 HM3.out.tl HM3.out.wf (by have := HLEN.out.1; omega) (fun e he => by have := HLEN.out.2 e he; omega)
  clear kL sy0 o3 b3 hp hpl cx0 cx1
  go_wp2_with fail
  refine kV.mono ?_
  rintro ev w4 ⟨vv, outv, vk, rfl, syv, hvr, hvm, hvl, ov, b4⟩
  obtain rfl : out0 = outv := say_unique (fun _ _ _ => Iff.rfl) HSY.out syv
  obtain ⟨vis, hvis⟩ : ∃ vis, vis = segL s0 vk := ⟨_, rfl⟩
  rw [← hvis] at ov
  have hvisl : vis.length ≤ 80000 := by
    rw [hvis]
    have := segL_len HLEN.out.2 vk
    have h3 : vk.length * 40 ≤ 2000 * 40 := Nat.mul_le_mul_right 40 hvl
    omega
  have HM4 := hide (HM3.out.below b4)
  have HX4 := hide (HX3.out.up b4)
  have HB4 : Hid (Below w.heap.size w w4) := HB3.out.trans (b4.mono HB3.out.size)
  have HPG4 := hide (HPG.out.up b4)
  have HVG := hide (Sgr.of ov)
  have HVB : Hid (∀ r, vv.ownBlock = some r → b10 < r) := by
    intro r hr
    have h1 := (own_lt ov r hr).1
    have h2 := HX3.out.lt
    omega
  have HVK := hide (And.intro hvr hvm)
  have HVE := hide hvis
  have HVL := hide hvisl
  have kC := cvd_any w4 t F3 s0 HM4.out.tl HM4.out.wf.ok (by have := HLEN.out.1; omega) (fun q => by
    have := segL_len HLEN.out.2 (keysF q s0)
    have h2 := keysF_len q s0
    have h3 : (keysF q s0).length * 40 ≤ 40 * 40 := Nat.mul_le_mul_right 40 (by have := HLEN.out.1; omega)
    omega)
  clear kV syv hvr hvm hvl ov b4 hvis hvisl
  go_wp2_with fail
  refine kC.mono ?_
  rintro ev w5 ⟨vc, rfl, outc, syc, oc, b5⟩
  obtain rfl : out0 = outc := say_unique (fun _ _ _ => Iff.rfl) HSY.out syc
  obtain ⟨c, hc⟩ : ∃ c, c = ckL s0 out0 := ⟨_, rfl⟩
  have hc' : segL s0 (keysF (fun k => cov k out0) s0) = c := by rw [hc]; rfl
  rw [hc'] at oc
  have hcl : c.length ≤ 1600 := by
    rw [← hc']
    have := segL_len HLEN.out.2 (keysF (fun k => cov k out0) s0)
    have h2 := keysF_len (fun k => cov k out0) s0
    have h3 : (keysF (fun k => cov k out0) s0).length * 40 ≤ 40 * 40 := Nat.mul_le_mul_right 40 (by have := HLEN.out.1; omega)
    omega
  have HX5 := hide (HX4.out.up b5)
  have HB5' : Hid (Below w.heap.size w w5) := HB4.out.trans (b5.mono HB4.out.size)
  have HPG5 := hide (HPG4.out.up b5)
  have HVG5 := hide (HVG.out.up b5)
  have HCG := hide (Sgr.of oc)
  have HCB : Hid (∀ r, vc.ownBlock = some r → b10 < r) := by
    intro r hr
    have h1 := (own_lt oc r hr).1
    have h2 := HX4.out.lt
    omega
  have HCE := hide hc
  have HST : Hid (Cst w5 w5 t F3 s0) := ⟨⟨F3, HM4.out.tl.below b5, fun j hj => .inl hj⟩, Fr.refl _ _⟩
  have HCV : Hid (CvS s0 c 0 s0) := ⟨HMD.out.wf, by simp⟩
  have HCN : Hid (c.Nodup ∧ (∀ g ∈ c, g ∈ sgs s0) ∧ ∀ g ∈ c, Few g) := by
    have h0 := HMD.out.wf
    refine ⟨by rw [hc]; exact segL_nodup h0 (keysF_nodup h0 _), fun g hg => ?_, fun g hg => ?_⟩
    · rw [hc] at hg; exact ((mem_ckL h0).1 hg).1
    · rw [hc] at hg; exact HMD.out.few g (HMD.out.pm.mem_iff.1 ((mem_ckL h0).1 hg).1)
  have HNV : Hid (∀ g ∈ vis, ∀ h ∈ c, g.1 ≠ h.1) := by
    have h0 := HMD.out.wf
    intro g hg h hh q
    rw [HVE.out] at hg
    rw [hc] at hh
    have h1 := ((mem_segL h0).1 hg).2
    obtain ⟨u, hu, r⟩ := (HVK.out.2 _).1 h1
    have h2 := ((mem_ckL h0).1 hh).2
    rw [← q, ← r] at h2
    have hlt := HSY.out.ne u hu
    have hb := HSY.out.is u hu u.2.1 (Int.le_refl _) hlt
    obtain ⟨z, hz, q1, q2, q3⟩ := cov_sound h2 hb.hl
    rw [(HSY.out.is z hz _ q1 q2).unique hb] at q3
    exact Ahd.irrefl _ q3
  obtain ⟨va, vcap, hvv, hv1, hv2, hv3⟩ := HVG5.out.ex
  obtain ⟨ca, ccap, hvc, hc1, hc2, hc3⟩ := HCG.out.ex
  have HV3 := hide hv3
  have HC3 := hide hc3
  obtain ⟨n, hn⟩ : ∃ n, n = c.length := ⟨_, rfl⟩
  obtain ⟨m, hm⟩ : ∃ m, m = vis.length := ⟨_, rfl⟩
  rw [← hn] at hvc hc1 hcl
  rw [← hm] at hvv hv1
  have hml : m ≤ 80000 := by have := HVL.out; omega
  have HN := hide hn
  have HM := hide hm
  unfold maxLen at hv2 hc2
  clear kC syc oc b5 hc hc' hv3 hc3 hn hm
  subst hvv
  subst hvc
  go_wp2_with fail
  go_loopg [10, 11] n (fun kx v10 _ wr => ∃ (i : Nat) (s : List Es), v10 = .int .i64 (i : Int) ∧ i ≤ n ∧ n - i ≤ kx ∧ Hid (Cst w5 wr t F3 s ∧ CvS s0 c i s))
  case atStart => exact ⟨0, s0, rfl, Nat.zero_le _, Nat.le_refl _, HST.out, HCV.out⟩
  case round =>
    obtain ⟨i, s, rfl, hi, hkx, HI⟩ := hrel
    have HSL : Hid (s.length ≤ 40 ∧ ∀ e ∈ s, e.2.2.length ≤ 40) := by
      have h1 := HI.out.2.pm.length_eq
      have h2 := wf_len HI.out.2.wf
      have h3 := HMD.out.pm.length_eq
      rw [List.length_append] at h1
      exact ⟨by omega, fun e he => by have := wf_parts (s := s) e he; omega⟩
    by_cases hlt : i < n
    · have hltz : (i : Int) < (n : Int) := by omega
      have hil : i < c.length := by have := HN.out; omega
      have HW1 : Hid (wrap64 ((i : Int) + 1) = (i : Int) + 1) := by apply hide; rw [← IntWalk.i64_left, IntKind.wrap_i64]; omega
      obtain ⟨cb, co, rfl, hcat⟩ := HC3.out (by omega)
      have hca := (hcat i hil).fr HI.out.1.fr (fun q => by have h1 := HF3.out _ q; have h2 := HCB.out cb rfl; omega)
      have hfew := HCN.out.2.2 _ (List.getElem_mem hil)
      have hnx := HI.out.2.step HMD.out.wf HCN.out.1 HCN.out.2.1 hil hfew.may
      have hnv := fun (g : Sg) (hg : g ∈ vis) => HNV.out g hg _ (List.getElem_mem hil)
      obtain ⟨g, hg⟩ : ∃ g, g = c[i] := ⟨_, rfl⟩
      rw [← hg] at hca hfew hnx
      simp only [← hg] at hnv
      obtain ⟨⟨g1, g2, g3⟩, g4, g5⟩ := g
      have HCA := hide hca
      have HFEW := hide hfew
      have HNX := hide hnx
      have HNVI := hide hnv
      clear hcat hca hfew hnx hnv hg
      go_wp2_with fail
      go_loopg [11] m (fun kx2 v11 wq => ∃ (k : Nat), v11 = .int .i64 (k : Int) ∧ k ≤ m ∧ m - k ≤ kx2 ∧ Hid (Grows wr wq))
      case atStart => exact ⟨0, rfl, Nat.zero_le _, Nat.le_refl _, Grows.refl _⟩
      case round =>
        rename World => wq
        obtain ⟨k, rfl, hk, hkx2, HG⟩ := hrel
        by_cases hkl : k < m
        · have hkz : (k : Int) < (m : Int) := by omega
          have hkp : k < vis.length := by have := HM.out; omega
          obtain ⟨vb, vo, rfl, hvat⟩ := HV3.out (by omega)
          have hva := ((hvat k hkp).fr HI.out.1.fr (fun q => by have h1 := HF3.out _ q; have h2 := HVB.out vb rfl; omega)).up HG.out.below
          have hcq := HCA.out.up HG.out.below
          have hne := HNVI.out _ (List.getElem_mem hkp)
          obtain ⟨⟨⟨x1, x2, x3⟩, x4, x5⟩, hx⟩ : ∃ x, x = vis[k] := ⟨_, rfl⟩
          rw [← hx] at hva hne
          have x0' := fun nq os => gro_cell hva.c0 nq os
          have x1' := fun nq os => gro_cell hva.c1 nq os
          have x2' := fun nq os => gro_cell hva.c2 nq os
          have x3' := fun nq os => gro_cell hva.c3 nq os
          have x4' := fun nq os => gro_cell hva.c4 nq os
          have y0 := fun nq os => gro_cell hcq.c0 nq os
          have y1 := fun nq os => gro_cell hcq.c1 nq os
          have y2 := fun nq os => gro_cell hcq.c2 nq os
          have y3 := fun nq os => gro_cell hcq.c3 nq os
          have y4 := fun nq os => gro_cell hcq.c4 nq os
          simp only at x0' x1' x2' x3' x4' y0 y1 y2 y3 y4
          have hsplit : ¬ x1 = g1 ∨ (x1 = g1 ∧ ¬ x2 = g2) ∨ (x1 = g1 ∧ x2 = g2 ∧ ¬ x3 = g3) := by
            by_cases r1 : x1 = g1
            · by_cases r2 : x2 = g2
              · by_cases r3 : x3 = g3
                · exact absurd (by rw [r1, r2, r3]) hne
                · exact .inr (.inr ⟨r1, r2, r3⟩)
              · exact .inr (.inl ⟨r1, r2⟩)
            · exact .inl r1
          have HW2 : Hid (wrap64 ((k : Int) + 1) = (k : Int) + 1) := by apply hide; rw [← IntWalk.i64_left, IntKind.wrap_i64]; omega
          clear hva hcq hvat hne hx
          go_upto_region 15 with fail
          rcases hsplit with h1 | ⟨rfl, h1⟩ | ⟨rfl, rfl, h1⟩
          · have e1 : (x1 == g1) = false := by simpa using h1
            refine wp_region_quiet_grown (by assumption) (by kernel_rfl) ?_
            repeat (go_big_quiet_step (first | fail))
            refine wpQuiet_nil ?_
            intro V hw'
            obtain ⟨⟨nq, osq⟩, hw''⟩ := hw'
            have HGV : Hid (Grows wr V) := by apply hide; rw [hw'']; exact HG.out.trans ⟨nq, osq, rfl⟩
            clear hw'' x0' x1' x2' x3' x4' y0 y1 y2 y3 y4
            go_wp2_with fail
            go_roundg (m - (k + 1))
            case measure => omega
            case rel => exact ⟨k + 1, by first | (rw [HW2.out]; rfl) | rfl, hkl, Nat.le_refl _, HGV⟩
          · have e1 : (x2 == g2) = false := by simpa using h1
            refine wp_region_quiet_grown (by assumption) (by kernel_rfl) ?_
            repeat (go_big_quiet_step (first | fail))
            refine wpQuiet_nil ?_
            intro V hw'
            obtain ⟨⟨nq, osq⟩, hw''⟩ := hw'
            have HGV : Hid (Grows wr V) := by apply hide; rw [hw'']; exact HG.out.trans ⟨nq, osq, rfl⟩
            clear hw'' x0' x1' x2' x3' x4' y0 y1 y2 y3 y4
            go_wp2_with fail
            go_roundg (m - (k + 1))
            case measure => omega
            case rel => exact ⟨k + 1, by first | (rw [HW2.out]; rfl) | rfl, hkl, Nat.le_refl _, HGV⟩
          · have e1 : (x3 == g3) = false := by simpa using h1
            refine wp_region_quiet_grown (by assumption) (by kernel_rfl) ?_
            repeat (go_big_quiet_step (first | fail))
            refine wpQuiet_nil ?_
            intro V hw'
            obtain ⟨⟨nq, osq⟩, hw''⟩ := hw'
            have HGV : Hid (Grows wr V) := by apply hide; rw [hw'']; exact HG.out.trans ⟨nq, osq, rfl⟩
            clear hw'' x0' x1' x2' x3' x4' y0 y1 y2 y3 y4
            go_wp2_with fail
            go_roundg (m - (k + 1))
            case measure => omega
            case rel => exact ⟨k + 1, by first | (rw [HW2.out]; rfl) | rfl, hkl, Nat.le_refl _, HGV⟩
        · have hkz : ¬ (k : Int) < (m : Int) := by omega
          have HC6 : Hid (Cst w5 wq t F3 s) := HI.out.1.up HG.out.below
          obtain ⟨F, hT, hFd⟩ := HC6.out.ex
          have kR := rem_any wq t F s g1 g2 g3 g4 g5 hT HI.out.2.wf HFEW.out.b3 (by have := HSL.out.1; omega) (fun e he => by have := HSL.out.2 e he; omega)
          have hcode : (remF s ((g1, g2, g3), g4, g5)).1 = 0 := HNX.out.1
          obtain ⟨rd, hrd⟩ : ∃ rd, rd = remF s ((g1, g2, g3), g4, g5) := ⟨_, rfl⟩
          rw [← hrd] at kR hcode
          have HRD := hide hrd
          obtain ⟨r1, s1⟩ := rd
          simp only at hcode
          subst hcode
          have HCV1 : Hid (CvS s0 c (i + 1) s1) := by
            apply hide
            have h1 := HNX.out.2
            rw [← hrd] at h1
            exact h1
          have HFD := hide hFd
          have hcq := HCA.out.up HG.out.below
          have c0 := hcq.c0
          have c1 := hcq.c1
          have c2 := hcq.c2
          have c3 := hcq.c3
          have c4 := hcq.c4
          simp only at c0 c1 c2 c3 c4
          clear hT hFd hrd hcq
          go_wp2_with fail
          refine kR.mono ?_
          rintro ev w6 ⟨rfl, F', htw⟩
          have HC7 := hide (HC6.out.step HFD.out htw)
          clear kR htw c0 c1 c2 c3 c4
          have HSL1 : Hid (s1.length ≤ 40 ∧ ∀ e ∈ s1, e.2.2.length ≤ 40) := by
            have h1 := HCV1.out.pm.length_eq
            have h2 := wf_len HCV1.out.wf
            have h3 := HMD.out.pm.length_eq
            have h4 := HMD.out.pm
            rw [List.length_append] at h1
            have h5 : l.length ≤ 40 := hll
            exact ⟨by omega, fun e he => by have := wf_parts (s := s1) e he; omega⟩
          obtain ⟨F2, hT2, hFd2⟩ := HC7.out.ex
          have kL := lookup_any w6 t F2 s1 0 1099511627776 hT2 HCV1.out.wf (by have := HSL1.out.1; omega) (fun e he => by have := HSL1.out.2 e he; omega)
          have hx6 := HX5.out.fr HC7.out.fr (fun q => by have := HF3.out _ q; omega)
          have cx0 := hx6.cell 0 _ rfl
          have cx1 := hx6.cell 1 _ rfl
          clear hT2 hFd2 hx6
          go_wp2_with fail
          refine kL.mono ?_
          rintro ev w8 ⟨vq, rfl, out2, sy2, o8, b8⟩
          rw [HCE.out] at HCV1
          obtain ⟨e1, e2, e3⟩ := HCV1.out.told HMD.out.wf HSY.out sy2
          rw [e2, ← HPE.out] at o8
          have HC8 := hide (HC7.out.up b8)
          have hp8 : Pgr w8 vp p := (HPG5.out.fr HC7.out.fr fun r hr q => by have h1 := HF3.out _ q; have h2 := HPB.out r hr; omega).up b8
          have kS := sameP_any w8 vq vp p (Pgr.of o8) hp8 (by have := HPL.out; omega)
          have HOF := hide e3
          clear kL sy2 o8 b8 hp8 e1 e2 e3 cx0 cx1
          go_wp2_with fail
          refine kS.mono ?_
          rintro ev w9 ⟨rfl, g9⟩
          have HC9 := hide (HC8.out.up g9.below)
          obtain ⟨F4, hT4, hFd4⟩ := HC9.out.ex
          have kV := vis_any w9 t F4 s1 hT4 HCV1.out.wf (by have := HSL1.out.1; omega) (fun e he => by have := HSL1.out.2 e he; omega)
          clear kS g9 hT4 hFd4
          go_wp2_with fail
          refine kV.mono ?_
          rintro ev w10 ⟨vw, outw, wk, rfl, syw, hwr, hwm, hwl, ow, b10'⟩
          obtain ⟨e1, _, _⟩ := HCV1.out.told HMD.out.wf HSY.out syw
          have e1' := e1.symm
          clear e1
          subst e1'
          have hwk : wk = vk := stn_eq hwr HVK.out.1 fun x => by rw [hwm, HVK.out.2]
          have hseg : segL s1 wk = vis := by
            rw [hwk, HVE.out]
            exact segL_congr fun x hx => HOF.out x ((HVK.out.2 x).1 hx)
          rw [hseg] at ow
          have HC10 := hide (HC9.out.up b10')
          have hv10 : Sgr w10 (.slice va m vcap) vis := HVG5.out.fr HC10.out.fr fun r hr q => by have h1 := HF3.out _ q; have h2 := HVB.out r hr; omega
          have kS2 := same_any w10 vw (.slice va m vcap) vis (Sgr.of ow) hv10 (by have := HVL.out; omega)
          clear kV syw hwr hwm hwl ow b10' hwk hseg hv10
          go_wp2_with fail
          refine kS2.mono ?_
          rintro ev w11 ⟨rfl, g11⟩
          have HC11 := hide (HC10.out.up g11.below)
          have HCV2 : Hid (CvS s0 c (i + 1) s1) := by apply hide; rw [HCE.out]; exact HCV1.out
          clear kS2 g11
          go_wp2_with fail
          go_roundg (n - (i + 1))
          case measure => omega
          case rel => exact ⟨i + 1, s1, by first | (rw [HW1.out]; rfl) | rfl, by omega, Nat.le_refl _, HC11.out, HCV2.out⟩
    · have hltz : ¬ (i : Int) < (n : Int) := by omega
      obtain ⟨F, hT, hFd⟩ := HI.out.1.ex
      have kC := cvd_any wr t F s hT HI.out.2.wf.ok (by have := HSL.out.1; omega) (fun q => by
        have := segL_len HSL.out.2 (keysF q s)
        have h2 := keysF_len q s
        have h3 : (keysF q s).length * 40 ≤ 40 * 40 := Nat.mul_le_mul_right 40 (by have := HSL.out.1; omega)
        omega)
      have HEND : Hid (Below w.heap.size w wr) := HB5'.out.trans (HI.out.1.fr.below HB5'.out.size fun j hj => Nat.le_trans HB1.out.size (HMD.out.fn j hj))
      have hcv : CvS s0 (ckL s0 out0) (ckL s0 out0).length s := by
        have h1 := HI.out.2
        have h2 : i = c.length := by have := HN.out; omega
        rw [h2, HCE.out] at h1
        exact h1
      have HCVE := hide hcv
      clear hT hFd hcv
      go_wp2_with fail
      refine kC.mono ?_
      rintro ev w6 ⟨vf, rfl, outf, syf, of, b6⟩
      obtain ⟨e1, _, _⟩ := HCVE.out.told HMD.out.wf HSY.out syf
      have e1' := e1.symm
      clear e1
      subst e1'
      rw [HCVE.out.none HMD.out.wf] at of
      obtain ⟨fa, fc, hvf⟩ := own_sl of
      have hz : (segL s []).length = 0 := rfl
      rw [hz] at hvf
      subst hvf
      have HE2 : Hid (Below w.heap.size w w6) := HEND.out.trans (b6.mono HEND.out.size)
      clear kC syf of b6 hz
      go_wp2_with fail
      go_ret
      exact ⟨rfl, HE2.out⟩
end Go.Proofs.Ytgbmigfamefenaa
