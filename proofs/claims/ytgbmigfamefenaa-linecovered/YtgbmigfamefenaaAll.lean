/- LineAll, the walk. -/
import Derived.Test.YtgbmigfamefenaaPuL
import Derived.Test.YtgbmigfamefenaaAwk
import Derived.Test.YtgbmigfamefenaaRowIn
namespace Go.Proofs.Ytgbmigfamefenaa
open Go.Shelf Go.RowKit Go.Maps Go.Sort
set_option linter.unusedVariables false

theorem any_take {α : Type} {l : List α} {P : α → Bool} {i : Nat} (hi : i < l.length) : (l.take (i + 1)).any P = ((l.take i).any P || P l[i]) := by
  rw [List.take_succ_eq_append_getElem hi, List.any_append]
  simp
theorem countP_take {α : Type} {l : List α} {P : α → Bool} {i : Nat} (hi : i < l.length) : (l.take (i + 1)).countP P = (l.take i).countP P + if P l[i] then 1 else 0 := by
  rw [List.take_succ_eq_append_getElem hi, List.countP_append]
  simp [List.countP_cons]
/-- A row of pieces that may be read. -/
structure Pgr (w : World) (v : Value) (l : List Pc) : Prop where
  ex : ∃ a c, v = .slice a l.length c ∧ l.length ≤ c ∧ c ≤ maxLen ∧ (0 < l.length → ∃ b o, a = some ⟨b, o, none⟩ ∧ ∀ i (hi : i < l.length), AtP w b (o + i * 7) l[i])
theorem Pgr.up {w w' : World} {v : Value} {l : List Pc} (h : Pgr w v l) (hb : Below w.heap.size w w') : Pgr w' v l := by
  obtain ⟨a, c, h1, h2, h3, h4⟩ := h.ex
  refine ⟨a, c, h1, h2, h3, fun hp => ?_⟩
  obtain ⟨b, o, e, hc⟩ := h4 hp
  exact ⟨b, o, e, fun i hi => (hc i hi).up hb⟩
theorem Pgr.of {w : World} {base e : Nat} {v : Value} {l : List Pc} (h : w.ownsRow base e 7 v l.length (pccs l)) : Pgr w v l := ⟨(RdsK.of_own h).pieces⟩
set_option maxRecDepth 100000 in
set_option maxHeartbeats 12800000 in
theorem all_walk (w : World) (v : Value) (raw : List Sg) (h : Sgr w v raw) (hB : ∀ g ∈ raw, B5 g) (hb : raw.length * 40 ≤ 140737488351232) (T0 : Int) (hT : In64 T0) :
    Calls Try.prog 4 #[v, .int .i64 T0] w fun e w' => e = .returned (.bool true) ∧ Below w.heap.size w w' := by
  have mixed : Try.prog.follows .mixedOrders = true := by kernel_rfl
  have kW := awake_any w
  have HR := hide h
  have HB5 := hide hB
  have kAb := fun w' => abs_any w' T0 hT.1 hT.2
  have hab := absN_lt hT.1 hT.2
  obtain ⟨A, hA⟩ : ∃ A, A = absN T0 := ⟨_, rfl⟩
  rw [← hA] at kAb hab
  obtain ⟨T, hTe⟩ : ∃ T, T = (A : Int) % 22 := ⟨_, rfl⟩
  have hT0 : 0 ≤ T ∧ T < 22 := by omega
  clear h hB hb hA hT
  go_enter Try.func4, Try.ntmps4
  go_wp2_with fail
  refine kW.mono ?_
  rintro ev w1 ⟨rfl, b1⟩
  have HB1 := hide b1
  have kM := made_any w1 v raw 40 (HR.out.up b1) HB5.out (Nat.le_refl _)
  clear kW b1
  go_wp2_with fail
  refine kM.mono ?_
  rintro ev w2 ⟨t, F, s, vl, l, rfl, hmd, hll⟩
  have HMD := hide hmd
  have HB2 : Hid (Below w.heap.size w w2) := HB1.out.trans (hmd.bel.mono HB1.out.size)
  clear kM hmd
  go_wp2_with fail
  refine (kAb _).mono ?_
  rintro ev w' ⟨rfl, rfl⟩
  have hw1 : IntKind.i64.wrap (T + 1) = T + 1 := by rw [IntKind.wrap_i64]; omega
  have hw2 : wrap64 (T + 1) = T + 1 := by rw [← IntWalk.i64_left]; exact hw1
  have kL := lookup_any w' t F s T (T + 1) HMD.out.tl HMD.out.wf (by have := HMD.out.len.1; omega) (fun e he => by have := HMD.out.len.2 e he; omega)
  have HTE := hide hTe
  clear kAb
  go_upto_region 6 with fail
  rw [← HTE.out]
  clear hTe
  go_wp2_with fail
  refine kL.mono ?_
  rintro ev w3 ⟨vp, rfl, out, sy, o3, b3⟩
  obtain ⟨hs1, hs2⟩ := all_say HMD.out.wf HMD.out.pm sy
  obtain ⟨p, hp⟩ : ∃ p, p = lkF s (cutS T (T + 1) out) := ⟨_, rfl⟩
  rw [← hp] at o3 hs1 hs2
  have HM3 : Hid (Md w1 w3 t F s vl l) := HMD.out.below b3
  have HB3 : Hid (Below w.heap.size w w3) := HB2.out.trans (b3.mono HB2.out.size)
  have hpg := Pgr.of o3
  have hsg := Sgr.of HM3.out.own
  obtain ⟨la, lc, hvl, hl1, hl2, hl3⟩ := hsg.ex
  obtain ⟨pa, pc, hvp, hp1, hp2, hp3⟩ := hpg.ex
  have hpl : p.length ≤ 2100000 := by
    rw [hp]
    have := lkF_len (m := 40) (fun e he => by have := HMD.out.len.2 e he; omega) T (T + 1) out
    have h2 : (keysF (pC T (T + 1) s) s).length ≤ 40 := Nat.le_trans (keysF_len _ _) (by have := HMD.out.len.1; omega)
    have h3 : (lkF s (cutS T (T + 1) out)).length ≤ 2100000 := by
      rcases one_cut (cut_of HMD.out.wf sy) with q | ⟨u, q, _⟩
      · rw [q]; simp [lkF]
      · rw [q, lkF_one]
        unfold pcs
        rw [List.length_map]
        exact Nat.le_trans (sgsOf_len (m := 40) (fun e he => by have := HMD.out.len.2 e he; omega) _) (by omega)
    exact h3
  have HSG := hide hsg
  have HL3 := hide hl3
  have HP3 := hide hp3
  have HS1 := hide hs1
  have HS2 := hide hs2
  obtain ⟨n, hn⟩ : ∃ n, n = l.length := ⟨_, rfl⟩
  obtain ⟨m, hm⟩ : ∃ m, m = p.length := ⟨_, rfl⟩
  rw [← hn] at hvl hl1 hll
  rw [← hm] at hvp hp1 hpl
  have HN := hide hn
  have HM := hide hm
  unfold maxLen at hl2 hp2
  clear kL sy o3 b3 hpg hsg hl3 hp3 hs1 hs2 hp hn hm
  subst hvp
  subst hvl
  go_wp2_with fail
  go_loopg [9, 10] n (fun kx v9 v10 wr => ∃ (i : Nat), v10 = .int .i64 (i : Int) ∧ i ≤ n ∧ n - i ≤ kx ∧ v9 = .bool ((l.take i).any (hdB l T)) ∧ Hid (Grows w3 wr))
  case atStart => exact ⟨0, rfl, Nat.zero_le _, Nat.le_refl _, rfl, Grows.refl _⟩
  case round =>
    obtain ⟨i, rfl, hi, hkx, rfl, HG⟩ := hrel
    by_cases hlt : i < n
    · have hltz : (i : Int) < (n : Int) := by omega
      have hil : i < l.length := by have := HN.out; omega
      obtain ⟨lb, lo, rfl, hat⟩ := HL3.out (by omega)
      have ha := (hat i hil).up HG.out.below
      have htk := any_take (P := hdB l T) hil
      have hfw := HM3.out.few _ (List.getElem_mem hil)
      obtain ⟨g, hg⟩ : ∃ g, g = l[i] := ⟨_, rfl⟩
      rw [← hg] at ha htk hfw
      have kH := whole_any wr (.slice (some ⟨lb, lo, none⟩) l.length lc) l g (by have := HSG.out.up HG.out.below; rw [HN.out] at this; exact this) (by have := HN.out; omega) (by have := hfw.co; omega)
      rw [← HN.out] at kH
      obtain ⟨b0, hb0⟩ : ∃ b, b = (l.take i).any (hdB l T) := ⟨_, rfl⟩
      rw [← hb0] at htk ⊢
      obtain ⟨q, hq⟩ : ∃ q, q = whB l g := ⟨_, rfl⟩
      unfold hdB at htk
      rw [← hq] at kH htk
      obtain ⟨⟨g1, g2, g3⟩, g4, g5⟩ := g
      have d0 := ha.c0
      have d1 := ha.c1
      have d2 := ha.c2
      have d3 := ha.c3
      have d4 := ha.c4
      simp only at d0 d1 d2 d3 d4 htk kH
      have HTK := hide htk
      have HW1 : Hid (wrap64 ((i : Int) + 1) = (i : Int) + 1) := by apply hide; rw [← IntWalk.i64_left, IntKind.wrap_i64]; omega
      clear ha hg hb0 hq htk hfw hat
      have hsplit : b0 = true ∨ (b0 = false ∧ (¬ g1 ≤ T ∨ (g1 ≤ T ∧ ¬ T < g2) ∨ (g1 ≤ T ∧ T < g2))) := by
        cases b0
        · right
          refine ⟨rfl, ?_⟩
          omega
        · left; rfl
      rcases hsplit with rfl | ⟨rfl, h1 | ⟨h1, h2⟩ | ⟨h1, h2⟩⟩
      · go_wp2_with fail
        go_roundg (n - (i + 1))
        case measure => omega
        case rel => exact ⟨i + 1, by first | (rw [HW1.out]; rfl) | rfl, hlt, Nat.le_refl _, by unfold hdB; rw [HTK.out]; simp, HG⟩
      · go_wp2_with fail
        go_roundg (n - (i + 1))
        case measure => omega
        case rel => exact ⟨i + 1, by first | (rw [HW1.out]; rfl) | rfl, hlt, Nat.le_refl _, by unfold hdB; rw [HTK.out, decide_eq_false (show ¬ g1 ≤ T by omega)]; rfl, HG⟩
      · go_wp2_with fail
        go_roundg (n - (i + 1))
        case measure => omega
        case rel => exact ⟨i + 1, by first | (rw [HW1.out]; rfl) | rfl, hlt, Nat.le_refl _, by unfold hdB; rw [HTK.out, decide_eq_true (show g1 ≤ T by omega), decide_eq_false (show ¬ T < g2 by omega)]; rfl, HG⟩
      · go_wp2_with fail
        refine kH.mono ?_
        rintro ev w4 ⟨rfl, g4'⟩
        have HG4 : Hid (Grows w3 w4) := HG.out.trans g4'
        clear g4' kH d0 d1 d2 d3 d4
        go_wp2_with fail
        go_roundg (n - (i + 1))
        case measure => omega
        case rel => exact ⟨i + 1, by first | (rw [HW1.out]; rfl) | rfl, hlt, Nat.le_refl _, by unfold hdB; rw [HTK.out, decide_eq_true (show g1 ≤ T by omega), decide_eq_true (show T < g2 by omega)]; rfl, HG4⟩
    · have hltz : ¬ (i : Int) < (n : Int) := by omega
      have hfull : (l.take i).any (hdB l T) = decide (0 < m) := by rw [List.take_of_length_le (by have := HN.out; omega), HS1.out, HM.out]
      rw [hfull]
      clear hfull
      by_cases hm0 : 0 < m
      · have hmz : (0 : Int) < (m : Int) := by omega
        obtain ⟨pb, po, rfl, hpat⟩ := HP3.out (by have := HM.out; omega)
        have hp0 := hpat 0 (by have := HM.out; omega)
        rw [Nat.zero_mul, Nat.add_zero] at hp0
        have hcount := HS2.out p[0] (List.getElem?_eq_getElem (by have := HM.out; omega))
        obtain ⟨p0, hp0e⟩ : ∃ q, q = p[0]'(by have := HM.out; omega) := ⟨_, rfl⟩
        rw [← hp0e] at hp0 hcount
        have HCT := hide hcount
        have HP0 := hide hp0
        clear hp0e hp0 hcount hpat
        rw [decide_eq_true hm0]
        go_wp2_with fail
        go_loopg [11, 12] n (fun kx2 v11 v12 wq => ∃ (j : Nat), v12 = .int .i64 (j : Int) ∧ j ≤ n ∧ n - j ≤ kx2 ∧ v11 = .int .i64 ((l.take j).countP (fun g => decide (g.1 = p0.1.1)) : Nat) ∧ Hid (Grows w3 wq))
        case atStart => exact ⟨0, rfl, Nat.zero_le _, Nat.le_refl _, rfl, HG⟩
        case round =>
          rename World => wq
          obtain ⟨j, rfl, hj, hkx2, rfl, HGq⟩ := hrel
          by_cases hjl : j < n
          · have hjz : (j : Int) < (n : Int) := by omega
            have hjp : j < l.length := by have := HN.out; omega
            obtain ⟨lb, lo, rfl, hat⟩ := HL3.out (by omega)
            have ha := (hat j hjp).up HGq.out.below
            have hp0q := HP0.out.up HGq.out.below
            have htk := countP_take (P := fun g : Sg => decide (g.1 = p0.1.1)) hjp
            have hcl : (l.take j).countP (fun g => decide (g.1 = p0.1.1)) ≤ 40 := Nat.le_trans List.countP_le_length (by rw [List.length_take]; omega)
            obtain ⟨g, hg⟩ : ∃ g, g = l[j] := ⟨_, rfl⟩
            rw [← hg] at ha htk
            obtain ⟨cn, hcn⟩ : ∃ c, c = (l.take j).countP (fun g => decide (g.1 = p0.1.1)) := ⟨_, rfl⟩
            rw [← hcn] at htk hcl ⊢
            have kO : ∀ nq os, _ := fun nq os => grown_at (w := wq) (fun w' => one_any w' g p0.1) nq os
            obtain ⟨q, hq⟩ : ∃ q, q = decide (g.1 = p0.1.1) := ⟨_, rfl⟩
            rw [← hq] at kO htk
            have HTK := hide htk
            have z0 := fun nq os => gro_cell ha.c0 nq os
            have z1 := fun nq os => gro_cell ha.c1 nq os
            have z2 := fun nq os => gro_cell ha.c2 nq os
            have z3 := fun nq os => gro_cell ha.c3 nq os
            have z4 := fun nq os => gro_cell ha.c4 nq os
            have y0 := fun nq os => gro_cell hp0q.g.c0 nq os
            have y1 := fun nq os => gro_cell hp0q.g.c1 nq os
            have y2 := fun nq os => gro_cell hp0q.g.c2 nq os
            have y3 := fun nq os => gro_cell hp0q.g.c3 nq os
            have y4 := fun nq os => gro_cell hp0q.g.c4 nq os
            have HW1 : Hid (wrap64 ((j : Int) + 1) = (j : Int) + 1) := by apply hide; rw [← IntWalk.i64_left, IntKind.wrap_i64]; omega
            have HW2 : Hid (wrap64 ((cn : Int) + 1) = (cn : Int) + 1) := by apply hide; rw [← IntWalk.i64_left, IntKind.wrap_i64]; omega
            clear ha hg hcn hq htk hat hp0q hw2
            go_upto_region 18 with fail
            refine wp_region_quiet_grown (by assumption) (by kernel_rfl) ?_
            repeat (go_big_quiet_step (first | (go_at_call 14; with_reducible refine Calls.grown_of (kO _ _))))
            refine wpQuiet_nil ?_
            intro V hw'
            obtain ⟨⟨nq, osq⟩, hw''⟩ := hw'
            have HGV : Hid (Grows w3 V) := by apply hide; rw [hw'']; exact HGq.out.trans ⟨nq, osq, rfl⟩
            clear hw'' kO z0 z1 z2 z3 z4 y0 y1 y2 y3 y4
            cases q
            · go_wp2_with fail
              go_roundg (n - (j + 1))
              case measure => omega
              case rel => exact ⟨j + 1, by first | (rw [HW1.out]; rfl) | rfl, hjl, Nat.le_refl _, by rw [HTK.out]; rfl, HGV⟩
            · go_wp2_with fail
              go_roundg (n - (j + 1))
              case measure => omega
              case rel => exact ⟨j + 1, by first | (rw [HW1.out]; rfl) | rfl, hjl, Nat.le_refl _, by rw [HTK.out]; first | (rw [HW2.out]; rfl) | rfl, HGV⟩
          · have hjz : ¬ (j : Int) < (n : Int) := by omega
            have hct : (l.take j).countP (fun g => decide (g.1 = p0.1.1)) = m := by rw [List.take_of_length_le (by have := HN.out; omega), HCT.out, HM.out]
            rw [hct]
            clear hct
            go_wp2_with fail
            go_ret
            exact ⟨rfl, HB3.out.trans (HGq.out.below.mono HB3.out.size)⟩
      · have hm1 : m = 0 := by omega
        subst hm1
        rw [decide_eq_false (by omega)]
        go_wp2_with fail
        go_loopg [11, 12] n (fun kx2 v11 v12 wq => ∃ (j : Nat), v12 = .int .i64 (j : Int) ∧ j ≤ n ∧ n - j ≤ kx2 ∧ v11 = .int .i64 0 ∧ Hid (Grows w3 wq))
        case atStart => exact ⟨0, rfl, Nat.zero_le _, Nat.le_refl _, rfl, HG⟩
        case round =>
          rename World => wq
          obtain ⟨j, rfl, hj, hkx2, rfl, HGq⟩ := hrel
          by_cases hjl : j < n
          · have hjz : (j : Int) < (n : Int) := by omega
            have HW1 : Hid (wrap64 ((j : Int) + 1) = (j : Int) + 1) := by apply hide; rw [← IntWalk.i64_left, IntKind.wrap_i64]; omega
            clear hw2
            go_upto_region 18 with fail
            refine wp_region_quiet_grown (by assumption) (by kernel_rfl) ?_
            repeat (go_big_quiet_step (first | fail))
            refine wpQuiet_nil ?_
            intro V hw'
            obtain ⟨⟨nq, osq⟩, hw''⟩ := hw'
            have HGV : Hid (Grows w3 V) := by apply hide; rw [hw'']; exact HGq.out.trans ⟨nq, osq, rfl⟩
            clear hw''
            go_wp2_with fail
            go_roundg (n - (j + 1))
            case measure => omega
            case rel => exact ⟨j + 1, by first | (rw [HW1.out]; rfl) | rfl, hjl, Nat.le_refl _, rfl, HGV⟩
          · have hjz : ¬ (j : Int) < (n : Int) := by omega
            go_wp2_with fail
            go_ret
            exact ⟨rfl, HB3.out.trans (HGq.out.below.mono HB3.out.size)⟩
end Go.Proofs.Ytgbmigfamefenaa
