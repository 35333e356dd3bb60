/- LineWaits, the walk. -/
import Derived.Test.YtgbmigfamefenaaPuW
import Derived.Test.YtgbmigfamefenaaSme
namespace Go.Proofs.Ytgbmigfamefenaa
open Go.Shelf Go.RowKit Go.Maps Go.Sort
set_option linter.unusedVariables false

theorem Pgr.fr {w w' : World} {F : Nat → Prop} {v : Value} {l : List Pc} (h : Pgr w v l) (hb : Fr F w w') (hn : ∀ r, v.ownBlock = some r → ¬ F r) : Pgr w' v l := by
  obtain ⟨a, c, h1, h2, h3, h4⟩ := h.ex
  refine ⟨a, c, h1, h2, h3, fun hp => ?_⟩
  obtain ⟨b, o, e, hc⟩ := h4 hp
  refine ⟨b, o, e, fun i hi => (hc i hi).fr hb (hn b ?_)⟩
  rw [h1, e]
  rfl
theorem fr_set {w : World} {b i : Nat} {u : Value} : Fr (fun j => j = b) w (w.setCell ⟨b, i, none⟩ u) := Fr.of_grown (grown_setCell (w := w) (R := b) (j := i) (u := u)) fun j hj => .inl (Option.some.inj hj).symm
theorem Fr.mono {F G : Nat → Prop} {w w' : World} (h : Fr F w w') (hF : ∀ i, F i → G i) : Fr G w w' := ⟨h.os, h.tape, h.output, h.size, fun i hi hg => h.block i hi fun hf => hg (hF i hf)⟩
/-- While LineWaits' set is built: the timeline, and the box of the segment. -/
structure Wst (w4 wr : World) (t : Nat) (F3 : Nat → Prop) (b12 : Nat) (part core : Int) (s : List Es) : Prop where
  ex : ∃ F, Tl wr t F s ∧ (∀ j, F j → F3 j ∨ w4.heap.size ≤ j)
  fr : Fr (fun j => F3 j ∨ j = b12) w4 wr
  bx : BxA wr b12 32 #[.int .i64 0, .int .i64 1099511627776, .int .i64 9, .int .i64 part, .int .i64 core]
theorem Wst.up {w4 wr w' : World} {t : Nat} {F3 : Nat → Prop} {b12 : Nat} {part core : Int} {s : List Es} (h : Wst w4 wr t F3 b12 part core s) (hb : Below wr.heap.size wr w') : Wst w4 w' t F3 b12 part core s := by
  obtain ⟨F, h1, h2⟩ := h.ex
  exact ⟨⟨F, h1.below hb, h2⟩, h.fr.trans (Fr.of_below hb) fun _ _ h => h, h.bx.up hb⟩
theorem Wst.set {w4 wr : World} {t : Nat} {F3 : Nat → Prop} {b12 : Nat} {part core : Int} {s : List Es} (h : Wst w4 wr t F3 b12 part core s) (hl : b12 < w4.heap.size) (hn : ¬ F3 b12) (u : Int) : Wst w4 (wr.setCell ⟨b12, 3, none⟩ (.int .i64 u)) t F3 b12 u core s := by
  obtain ⟨F, h1, h2⟩ := h.ex
  refine ⟨⟨F, h1.other (fr_set (w := wr) (b := b12) (i := 3) (u := .int .i64 u)) fun j hj e => ?_, h2⟩, h.fr.trans (fr_set.mono fun i hi => .inr hi) fun _ _ h => h, h.bx.set 3 _⟩
  subst e
  rcases h2 j hj with q | q
  · exact hn q
  · omega
theorem Wst.step {w4 wr w' : World} {t : Nat} {F F3 F' : Nat → Prop} {b12 : Nat} {part core : Int} {s s' : List Es} (h : Wst w4 wr t F3 b12 part core s) (hl : b12 < w4.heap.size) (hn : ¬ F3 b12) (h2 : ∀ j, F j → F3 j ∨ w4.heap.size ≤ j) (k : Tw wr w' t F s' F') : Wst w4 w' t F3 b12 part core s' := by
  refine ⟨⟨F', k.tl, fun j hj => ?_⟩, h.fr.trans k.fr fun i hi hf => .inl ((h2 i hf).resolve_right (by omega)), h.bx.fr k.fr fun q => ?_⟩
  · rcases k.dn j hj with q | q
    · exact h2 j q
    · have := h.fr.size; exact .inr (by omega)
  · rcases h2 b12 q with r | r
    · exact hn r
    · omega
set_option maxRecDepth 100000 in
set_option maxHeartbeats 25600000 in
theorem wts_walk (w : World) (v : Value) (raw : List Sg) (h : Sgr w v raw) (hB : ∀ g ∈ raw, B5 g) (hb : raw.length * 40 ≤ 140737488351232) (c0 : Int) (hc0 : In64 c0) (l0 : Int) (hl0 : In64 l0) :
    Calls Try.prog 8 #[v, .int .i64 c0, .int .i64 l0] w fun e w' => e = .returned (.bool true) ∧ Below w.heap.size w w' := by
  have mixed : Try.prog.follows .mixedOrders = true := by kernel_rfl
  have kW := awake_any w
  have HR := hide h
  have HB5 := hide hB
  have kA1 := fun w' => abs_any w' c0 hc0.1 hc0.2
  have ha1 := absN_lt hc0.1 hc0.2
  have kA2 := fun w' => abs_any w' l0 hl0.1 hl0.2
  have ha2 := absN_lt hl0.1 hl0.2
  obtain ⟨A, hA⟩ : ∃ A, A = absN c0 := ⟨_, rfl⟩
  obtain ⟨B, hBe⟩ : ∃ B, B = absN l0 := ⟨_, rfl⟩
  rw [← hA] at kA1 ha1
  rw [← hBe] at kA2 ha2
  obtain ⟨C, hC⟩ : ∃ C : Nat, C = 1 + A % 6 := ⟨_, rfl⟩
  obtain ⟨D, hD⟩ : ∃ D : Nat, D = B % C := ⟨_, rfl⟩
  have hC1 : 1 ≤ C ∧ C ≤ 6 := by omega
  have hD1 : D < C := by rw [hD]; exact Nat.mod_lt _ (by omega)
  have HCE : Hid ((1 : Int) + (A : Int) % 6 = (C : Int)) := by apply hide; omega
  have HDE : Hid ((B : Int) % (C : Int) = (D : Int)) := by apply hide; rw [hD]; simp
  have hw0 : IntKind.i64.wrap (1 + (A : Int) % 6) = 1 + (A : Int) % 6 := by rw [IntKind.wrap_i64]; omega
  have hw0' : wrap64 (1 + (A : Int) % 6) = 1 + (A : Int) % 6 := by rw [← IntWalk.i64_left]; exact hw0
  clear h hB hb hA hBe hc0 hl0 hC hD
  go_enter Try.func8, Try.ntmps8
  go_wp2_with fail
  refine kW.mono ?_
  rintro ev w1 ⟨rfl, b1⟩
  have HB1 := hide b1
  have kM := made_any w1 v raw 30 (HR.out.up b1) HB5.out (by decide)
  clear kW b1
  go_wp2_with fail
  refine kM.mono ?_
  rintro ev w2 ⟨t, F3, s, vl, l, rfl, hmd, hll⟩
  have HMD := hide hmd
  have HB2 : Hid (Below w.heap.size w w2) := HB1.out.trans (hmd.bel.mono HB1.out.size)
  clear kM hmd
  go_wp2_with fail
  refine (kA1 _).mono ?_
  rintro ev w' ⟨rfl, rfl⟩
  clear kA1
  go_upto_region 6 with fail
  rw [HCE.out]
  have hCz : (C : Int) ≠ 0 := by omega
  have hCn : ¬ (C : Int) = 0 := by omega
  have hCp : (0 : Int) < (C : Int) := by omega
  have hBp : (0 : Int) ≤ (B : Int) := by omega
  clear hw0 hw0'
  go_wp2_with fail
  refine (kA2 _).mono ?_
  rintro ev w'' ⟨rfl, rfl⟩
  clear kA2
  go_upto_region 7 with fail
  rw [HDE.out]
  clear hCz hCn hCp hBp
  obtain ⟨b10, hb10⟩ : ∃ b, b = w''.heap.size := ⟨_, rfl⟩
  obtain ⟨W7, hW7⟩ : ∃ W7, W7 = w''.alloc (.cells #[.int .i64 0, .int .i64 1099511627776] 24) := ⟨_, rfl⟩
  have hB7 : Below w''.heap.size w'' W7 := by rw [hW7]; exact (Grows.alloc _ _).below
  have hX7 : BxA W7 b10 24 #[.int .i64 0, .int .i64 1099511627776] := by rw [hW7, hb10]; exact BxA.new _ _ _
  have hm7 := HMD.out.below hB7
  have kL := lookup_any W7 t F3 s 0 1099511627776 hm7.tl hm7.wf (by have := hm7.len.1; omega) (fun e he => by have := hm7.len.2 e he; omega)
  have HW7 := hide hW7
  have HB10 := hide hb10
  have HX7 := hide hX7
  have HM7 := hide hm7
  have HF3 : Hid (∀ i, F3 i → i < b10) := by intro i hi; have := HMD.out.tl.lt i hi; rw [hb10]; exact this
  have HB7 : Hid (Below w.heap.size w W7) := HB2.out.trans (hB7.mono HB2.out.size)
  have cx0 := hX7.cell 0 _ rfl
  have cx1 := hX7.cell 1 _ rfl
  clear hW7 hb10 hX7 hm7 hB7
  go_upto_region 8 with fail
  rw [← HW7.out, ← HB10.out]
  go_wp2_with fail
  refine kL.mono ?_
  rintro ev w3 ⟨vw, rfl, out, sy, o3, b3⟩
  obtain ⟨pw, hpw⟩ : ∃ p, p = lkF s (cutS 0 1099511627776 out) := ⟨_, rfl⟩
  have hcut := cut_of HMD.out.wf sy
  have hpwl : pw.length ≤ 1000 := by rw [hpw]; exact lk_len HMD.out.wf HMD.out.pm HMD.out.few (by omega) hcut
  rw [← hpw] at o3
  have HX3 := hide (HX7.out.up b3)
  have HM3 := hide (HM7.out.below b3)
  have HB3 : Hid (Below w.heap.size w w3) := HB7.out.trans (b3.mono HB7.out.size)
  obtain ⟨b12, hb12⟩ : ∃ b, b = w3.heap.size := ⟨_, rfl⟩
  obtain ⟨W4, hW4⟩ : ∃ W4, W4 = w3.alloc (.cells #[.int .i64 0, .int .i64 1099511627776, .int .i64 9, .int .i64 0, .int .i64 (C : Int)] 32) := ⟨_, rfl⟩
  have hB4 : Below w3.heap.size w3 W4 := by rw [hW4]; exact (Grows.alloc _ _).below
  have hX12 : BxA W4 b12 32 #[.int .i64 0, .int .i64 1099511627776, .int .i64 9, .int .i64 0, .int .i64 (C : Int)] := by rw [hW4, hb12]; exact BxA.new _ _ _
  have hl10 : b10 < b12 := by rw [hb12]; exact HX3.out.lt
  have HSY := hide sy
  have HPW := hide hpw
  have HWS : Hid (Pgr W4 vw pw ∧ ∀ r, vw.ownBlock = some r → b10 < r ∧ r < b12) := by
    refine ⟨(Pgr.of o3).up hB4, fun r hr => ?_⟩
    have h1 := own_lt o3 r hr
    have h2 := HX7.out.lt
    rw [hb12]
    omega
  have HN12 : Hid (¬ F3 b12 ∧ ¬ F3 b10 ∧ b10 ≠ b12 ∧ b12 < W4.heap.size) := by
    refine ⟨fun q => ?_, fun q => ?_, by omega, hX12.lt⟩
    · have := HF3.out _ q; omega
    · have := HF3.out _ q; omega
  have HST : Hid (Wst W4 W4 t F3 b12 0 (C : Int) s) := ⟨⟨F3, HM3.out.tl.below hB4, fun j hj => .inl hj⟩, Fr.refl _ _, hX12⟩
  have HX4 : Hid (BxA W4 b10 24 #[.int .i64 0, .int .i64 1099511627776]) := HX3.out.up hB4
  have HB4 : Hid (Below w.heap.size w W4) := HB3.out.trans (hB4.mono HB3.out.size)
  have HWT : Hid (WtS l C D 0 s) := ⟨HMD.out.wf, by have := HMD.out.pm; simpa [prS, prt] using this⟩
  have HW4 := hide hW4
  have HB12 := hide hb12
  have HBL : Hid (w.heap.size ≤ b10) := by apply hide; rw [HB10.out]; exact HB2.out.size
  have d0 := HX3.out.cell 0 _ rfl
  have d1 := HX3.out.cell 1 _ rfl
  clear kL sy o3 b3 hpw hcut hW4 hb12 hB4 hX12 hl10 cx0 cx1
  go_upto_region 9 with fail
  go_upto_region 10 with fail
  rw [← HW4.out, ← HB12.out]
  clear d0 d1
  go_wp2_with fail
  go_loopg [13] (C + 1) (fun kx v13 wr => ∃ (i : Nat) (s' : List Es) (part : Int), v13 = .int .i64 (i : Int) ∧ i ≤ C + 1 ∧ C + 1 - i ≤ kx ∧ Hid (Wst W4 wr t F3 b12 part (C : Int) s' ∧ WtS l C D i s'))
  case atStart => exact ⟨0, s, 0, rfl, Nat.zero_le _, Nat.le_refl _, HST.out, HWT.out⟩
  case round =>
    obtain ⟨i, s', part, rfl, hi, hkx, HI⟩ := hrel
    have hsl : s'.length ≤ 100 ∧ ∀ e ∈ s', e.2.2.length ≤ 100 := by
      have h1 := HI.out.2.pm.length_eq
      have h2 := wf_len HI.out.2.wf
      have h3 : (prS C D i).length ≤ i := by
        unfold prS prt
        rw [List.length_map]
        exact Nat.le_trans (List.length_filter_le _ _) (by rw [List.length_range]; exact Nat.le_refl _)
      rw [List.length_append] at h1
      exact ⟨by omega, fun e he => by have := wf_parts (s := s') e he; omega⟩
    have HSL := hide hsl
    clear hsl
    by_cases hlt : i ≤ C
    · have hltz : (i : Int) ≤ (C : Int) := by omega
      have HW1 : Hid (wrap64 ((i : Int) + 1) = (i : Int) + 1) := by apply hide; rw [← IntWalk.i64_left, IntKind.wrap_i64]; omega
      have hst := HI.out.1.set HN12.out.2.2.2 HN12.out.1 (i : Int)
      have hfr := HI.out.1.bx.free 3
      obtain ⟨W13, hW13⟩ : ∃ W13, W13 = wr.setCell ⟨b12, 3, none⟩ (.int .i64 (i : Int)) := ⟨_, rfl⟩
      rw [← hW13] at hst
      have HS13 := hide hst
      have HW13 := hide hW13
      have c0 := hst.bx.cell 0 _ rfl
      have c1 := hst.bx.cell 1 _ rfl
      have c2 := hst.bx.cell 2 _ rfl
      have c3 := hst.bx.cell 3 _ rfl
      have c4 := hst.bx.cell 4 _ rfl
      have e3 := HI.out.1.bx.cell 3 _ rfl
      clear hW13
      by_cases hid : i = D
      · have hz : ((i : Int) != (D : Int)) = false := by simp; omega
        have HID := hide hid
        clear hid hst c0 c1 c2 c3 c4
        go_upto_region 14 with fail
        rw [← HW13.out]
        clear e3 hfr
        go_wp2_with fail
        go_roundg (C + 1 - (i + 1))
        case measure => omega
        case rel =>
          refine ⟨i + 1, s', (i : Int), by first | (rw [HW1.out]; rfl) | rfl, by omega, Nat.le_refl _, HS13.out, ?_⟩
          have := HI.out.2
          rw [HID.out] at this ⊢
          exact this.skip
      · have hz : ((i : Int) != (D : Int)) = true := by simp; omega
        obtain ⟨F, hT, hFd⟩ := hst.ex
        have kA := add_any W13 t F s' 0 1099511627776 9 (i : Int) (C : Int) hT HI.out.2.wf kw_b3 (by have := HSL.out.1; omega) (fun e he => by have := HSL.out.2 e he; omega)
        have hnx := HI.out.2.next HMD.out.few hid
        have HNX := hide hnx
        have HFD := hide hFd
        have hcode : (addF s' ((0, 1099511627776, 9), (i : Int), (C : Int))).1 = 0 := hnx.1
        obtain ⟨ad, had⟩ : ∃ ad, ad = addF s' ((0, 1099511627776, 9), (i : Int), (C : Int)) := ⟨_, rfl⟩
        rw [← had] at kA hcode
        have HAD := hide had
        obtain ⟨a1, a2⟩ := ad
        simp only at hcode
        subst hcode
        clear hid hst hT hFd hnx had
        go_upto_region 14 with fail
        rw [← HW13.out]
        clear e3 hfr
        go_wp2_with fail
        refine kA.mono ?_
        rintro ev w5 ⟨rfl, F', htw⟩
        have h5 := HS13.out.step HN12.out.2.2.2 HN12.out.1 HFD.out htw
        have HS5 := hide h5
        clear kA htw h5 c0 c1 c2 c3 c4
        go_wp2_with fail
        go_roundg (C + 1 - (i + 1))
        case measure => omega
        case rel =>
          refine ⟨i + 1, a2, (i : Int), by first | (rw [HW1.out]; rfl) | rfl, by omega, Nat.le_refl _, HS5.out, ?_⟩
          have h1 := HNX.out.2
          have h2 := HAD.out
          unfold KW at h1
          rw [← h2] at h1
          exact h1
    · have hiC : i = C + 1 := by omega
      subst hiC
      have hltz : ¬ ((C + 1 : Nat) : Int) ≤ (C : Int) := by omega
      obtain ⟨F, hT, hFd⟩ := HI.out.1.ex
      have kL := lookup_any wr t F s' 0 1099511627776 hT HI.out.2.wf (by have := HSL.out.1; omega) (fun e he => by have := HSL.out.2 e he; omega)
      have hx10 := HX4.out.fr HI.out.1.fr (fun q => q.elim HN12.out.2.1 HN12.out.2.2.1)
      have c0 := hx10.cell 0 _ rfl
      have c1 := hx10.cell 1 _ rfl
      have HFD := hide hFd
      have HX10 := hide hx10
      clear hT hFd hx10
      go_wp2_with fail
      refine kL.mono ?_
      rintro ev w5 ⟨vq, rfl, out2, sy2, o5, b5⟩
      rw [HI.out.2.same (by omega) HMD.out.wf HMD.out.pm HMD.out.few HSY.out sy2, ← HPW.out] at o5
      have hwas : Pgr w5 vw pw := (HWS.out.1.fr HI.out.1.fr fun r hr q => by
        have := HWS.out.2 r hr
        rcases q with q | q
        · have := HF3.out r q; omega
        · omega).up b5
      have kS := sameP_any w5 vq vw pw (Pgr.of o5) hwas (by omega)
      have HS5 := hide (HI.out.1.up b5)
      have HX5 := hide (HX10.out.up b5)
      clear kL sy2 o5 hwas c0 c1 b5
      go_wp2_with fail
      refine kS.mono ?_
      rintro ev w6 ⟨rfl, g6⟩
      have HS6 := hide (HS5.out.up g6.below)
      have HX6 := hide (HX5.out.up g6.below)
      have hst := HS6.out.set HN12.out.2.2.2 HN12.out.1 (D : Int)
      have hfr := HS6.out.bx.free 3
      have e3 := HS6.out.bx.cell 3 _ rfl
      obtain ⟨W7', hW7'⟩ : ∃ W, W = w6.setCell ⟨b12, 3, none⟩ (.int .i64 (D : Int)) := ⟨_, rfl⟩
      rw [← hW7'] at hst
      have HS7 := hide hst
      have HW7' := hide hW7'
      have HX7' : Hid (BxA W7' b10 24 #[.int .i64 0, .int .i64 1099511627776]) := by apply hide; rw [hW7']; exact HX6.out.fr (fr_set (w := w6) (b := b12)) HN12.out.2.2.1
      have c0 := hst.bx.cell 0 _ rfl
      have c1 := hst.bx.cell 1 _ rfl
      have c2 := hst.bx.cell 2 _ rfl
      have c3 := hst.bx.cell 3 _ rfl
      have c4 := hst.bx.cell 4 _ rfl
      obtain ⟨F, hT, hFd⟩ := hst.ex
      have kA := add_any W7' t F s' 0 1099511627776 9 (D : Int) (C : Int) hT HI.out.2.wf kw_b3 (by have := HSL.out.1; omega) (fun e he => by have := HSL.out.2 e he; omega)
      have hnx := HI.out.2.add HMD.out.few D (.inl rfl)
      have HNX := hide hnx
      have HFD2 := hide hFd
      have hcode : (addF s' ((0, 1099511627776, 9), (D : Int), (C : Int))).1 = 0 := hnx.1
      obtain ⟨ad, had⟩ : ∃ ad, ad = addF s' ((0, 1099511627776, 9), (D : Int), (C : Int)) := ⟨_, rfl⟩
      rw [← had] at kA hcode
      have HAD := hide had
      obtain ⟨a1, a2⟩ := ad
      simp only at hcode
      subst hcode
      clear kS g6 hst hT hFd hnx had hW7'
      go_upto_region 19 with fail
      rw [← HW7'.out]
      clear e3 hfr
      go_wp2_with fail
      refine kA.mono ?_
      rintro ev w8 ⟨rfl, F', htw⟩
      have HS8 := hide (HS7.out.step HN12.out.2.2.2 HN12.out.1 HFD2.out htw)
      have HX8 : Hid (BxA w8 b10 24 #[.int .i64 0, .int .i64 1099511627776]) := HX7'.out.fr htw.fr fun q => by
        rcases HFD2.out b10 q with r | r
        · exact HN12.out.2.1 r
        · have h1 := HX4.out.lt; omega
      have HWF8 : Hid (Wf a2 ∧ (sgs a2).Perm ((KW, (D : Int), (C : Int)) :: (prS C D (C + 1) ++ l))) := by
        have h1 := HNX.out.2
        have h2 := HAD.out
        unfold KW at h1
        rw [← h2] at h1
        exact h1
      have hsl2 : a2.length ≤ 1000 ∧ ∀ e ∈ a2, e.2.2.length ≤ 1000 := by
        have h1 := HWF8.out.2.length_eq
        have h2 := wf_len HWF8.out.1
        have h3 : (prS C D (C + 1)).length ≤ C + 1 := by
          unfold prS prt
          rw [List.length_map]
          exact Nat.le_trans (List.length_filter_le _ _) (by rw [List.length_range]; exact Nat.le_refl _)
        rw [List.length_cons, List.length_append] at h1
        exact ⟨by omega, fun e he => by have := wf_parts (s := a2) e he; omega⟩
      have kL := lookup_any w8 t F' a2 0 1099511627776 htw.tl HWF8.out.1 hsl2.1 hsl2.2
      clear kA htw c0 c1 c2 c3 c4 hsl2
      have c0 := HX8.out.cell 0 _ rfl
      have c1 := HX8.out.cell 1 _ rfl
      go_wp2_with fail
      refine kL.mono ?_
      rintro ev w9 ⟨vp, rfl, out3, sy3, o9, b9⟩
      rw [HI.out.2.full (by omega) HMD.out.few HWF8.out.1 HWF8.out.2 sy3] at o9
      obtain ⟨pl, hpl⟩ : ∃ pl, pl = (flW C).map fun g => ((g, 0, 1099511627776) : Pc) := ⟨_, rfl⟩
      rw [← hpl] at o9
      have hpll : pl.length = C + 1 := by rw [hpl]; simp [flW]
      have hpat : ∀ i (hi : i < pl.length), pl[i] = (((0, 1099511627776, 9), (i : Int), (C : Int)), 0, 1099511627776) := by
        intro i hi
        simp [hpl, flW, KW]
      have hpg := Pgr.of o9
      obtain ⟨pa, pc, hvp, hp1, hp2, hp3⟩ := hpg.ex
      have HP3 := hide hp3
      have HPAT := hide hpat
      have HPB : Hid (∀ r, vp.ownBlock = some r → r ≠ b12) := by
        intro r hr
        have h1 := (own_lt o9 r hr).1
        have h2 := HS8.out.bx.lt
        omega
      have HS9 := hide (HS8.out.up b9)
      have HX9 := hide (HX8.out.up b9)
      rw [hpll] at hvp hp1
      have HPL := hide hpll
      unfold maxLen at hp2
      clear kL sy3 o9 b9 hpl hpll hpat hpg hp3 c0 c1
      subst hvp
      go_wp2_with fail
      go_loopg [15] (C + 1) (fun kx2 v15 wq => ∃ (j : Nat) (part : Int), v15 = .int .i64 (j : Int) ∧ j ≤ C + 1 ∧ C + 1 - j ≤ kx2 ∧ Hid (Fr (fun i => i = b12) w9 wq ∧ BxA wq b12 32 #[.int .i64 0, .int .i64 1099511627776, .int .i64 9, .int .i64 part, .int .i64 (C : Int)]))
      case atStart => exact ⟨0, _, rfl, Nat.zero_le _, Nat.le_refl _, Fr.refl _ _, HS9.out.bx⟩
      case round =>
        rename World => wq
        obtain ⟨j, part, rfl, hj, hkx2, HJ⟩ := hrel
        by_cases hjl : j < C + 1
        · have hjz : (j : Int) < ((C + 1 : Nat) : Int) := by omega
          have hjp : j < pl.length := by have := HPL.out; omega
          have HW1 : Hid (wrap64 ((j : Int) + 1) = (j : Int) + 1) := by apply hide; rw [← IntWalk.i64_left, IntKind.wrap_i64]; omega
          have hbx := HJ.out.2.set 3 (.int .i64 (j : Int))
          have hfr := HJ.out.2.free 3
          have e3 := HJ.out.2.cell 3 _ rfl
          obtain ⟨W5, hW5⟩ : ∃ W, W = wq.setCell ⟨b12, 3, none⟩ (.int .i64 (j : Int)) := ⟨_, rfl⟩
          have hF5 : Fr (fun i => i = b12) w9 W5 := by rw [hW5]; exact HJ.out.1.trans fr_set fun _ _ h => h
          rw [← hW5] at hbx
          obtain ⟨pb, po, rfl, hat⟩ := HP3.out (by omega)
          have hp := (hat j hjp).fr hF5 (HPB.out pb rfl)
          rw [HPAT.out j hjp] at hp
          have hx := HX9.out.fr hF5 HN12.out.2.2.1
          have x0 := fun nq os => gro_cell hp.g.c0 nq os
          have x1 := fun nq os => gro_cell hp.g.c1 nq os
          have x2 := fun nq os => gro_cell hp.g.c2 nq os
          have x3 := fun nq os => gro_cell hp.g.c3 nq os
          have x4 := fun nq os => gro_cell hp.g.c4 nq os
          have x5 := fun nq os => gro_cell hp.c5 nq os
          have x6 := fun nq os => gro_cell hp.c6 nq os
          have y0 := fun nq os => gro_cell (hbx.cell 0 _ rfl) nq os
          have y1 := fun nq os => gro_cell (hbx.cell 1 _ rfl) nq os
          have y2 := fun nq os => gro_cell (hbx.cell 2 _ rfl) nq os
          have y3 := fun nq os => gro_cell (hbx.cell 3 _ rfl) nq os
          have y4 := fun nq os => gro_cell (hbx.cell 4 _ rfl) nq os
          have z0 := fun nq os => gro_cell (hx.cell 0 _ rfl) nq os
          have z1 := fun nq os => gro_cell (hx.cell 1 _ rfl) nq os
          simp only at x0 x1 x2 x3 x4 x5 x6
          have HBX := hide hbx
          have HF5 := hide hF5
          have HW5 := hide hW5
          clear hp hat hx hbx hF5 hW5
          go_upto_region 26 with fail
          rw [← HW5.out]
          clear e3 hfr
          refine wp_region_quiet_grown (by assumption) (by kernel_rfl) ?_
          repeat (go_big_quiet_step (first | fail))
          refine wpQuiet_nil ?_
          intro V hw'
          obtain ⟨⟨nq, osq⟩, hw''⟩ := hw'
          have hGV : Grows W5 V := by rw [hw'']; exact ⟨nq, osq, rfl⟩
          have HV : Hid (Fr (fun i => i = b12) w9 V ∧ BxA V b12 32 #[.int .i64 0, .int .i64 1099511627776, .int .i64 9, .int .i64 (j : Int), .int .i64 (C : Int)]) := ⟨HF5.out.trans (Fr.of_below hGV.below) fun _ _ h => h, HBX.out.up hGV.below⟩
          clear hw'' hGV x0 x1 x2 x3 x4 x5 x6 y0 y1 y2 y3 y4 z0 z1
          go_wp2_with fail
          go_roundg (C + 1 - (j + 1))
          case measure => omega
          case rel => exact ⟨j + 1, (j : Int), by first | (rw [HW1.out]; rfl) | rfl, by omega, Nat.le_refl _, HV.out⟩
        · have hjz : ¬ (j : Int) < ((C + 1 : Nat) : Int) := by omega
          have hw4 : IntKind.i64.wrap ((C : Int) + 1) = (C : Int) + 1 := by rw [IntKind.wrap_i64]; omega
          have hw4' : wrap64 ((C : Int) + 1) = (C : Int) + 1 := by rw [← IntWalk.i64_left]; exact hw4
          have heq : (((C + 1 : Nat) : Int) == (C : Int) + 1) = true := by simp
          have HEND : Hid (Below w.heap.size w wq) := by
            have h1 : Fr (fun i => F3 i ∨ i = b12) W4 wq := (HS9.out.fr).trans (HJ.out.1.mono fun i hi => .inr hi) fun _ _ h => h
            exact HB4.out.trans (h1.below HB4.out.size fun i hi => by
              rcases hi with q | q
              · exact Nat.le_trans HB1.out.size (HMD.out.fn i q)
              · have := HBL.out
                have := HN12.out.2.2.1
                have h5 : b10 < b12 := by
                  have h6 := HX3.out.lt
                  rw [← HB12.out] at h6
                  exact h6
                omega)
          go_wp2_with fail
          go_ret
          exact ⟨by first | rfl | simp, HEND.out⟩
end Go.Proofs.Ytgbmigfamefenaa
