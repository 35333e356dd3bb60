/- Contract: Lookup. -/
import Derived.Test.YtgbmigfamefenaaRwM
namespace Go.Proofs.Ytgbmigfamefenaa
open Go.Shelf Go.RowKit Go.Maps Go.Sort
set_option linter.unusedVariables false

set_option maxRecDepth 100000 in
set_option maxHeartbeats 12800000 in
theorem lookup_any (w : World) (t : Nat) (F : Nat → Prop) (s : List Es) (sa sb : Int) (h : Tl w t F s) (hs : Wf s) (hfew : s.length ≤ 1000) (hps : ∀ e ∈ s, e.2.2.length ≤ 1000) :
    Calls Try.prog 11 #[.pointer (some ⟨t, 0, none⟩), .agg #[.int .i64 sa, .int .i64 sb]] w fun ev w' => ∃ v, ev = .returned v ∧ ∃ out, Say (keysF (pC sa sb s) s) out 1099511627776 ∧ w'.ownsRow w.heap.size 34 7 v (lkF s (cutS sa sb out)).length (pccs (lkF s (cutS sa sb out))) ∧ Below w.heap.size w w' := by
  have mixed : Try.prog.follows .mixedOrders = true := by kernel_rfl
  obtain ⟨i0, hi0, hi1, hi2, hi3⟩ := info_parts Try.info_piece
  obtain ⟨W, hW⟩ : ∃ W, W = w.alloc (.cells #[.int .i64 sa, .int .i64 sb] 24) := ⟨_, rfl⟩
  have hBW : Below w.heap.size w W := by rw [hW]; exact (Grows.alloc _ _).below
  have hSX : BxA W w.heap.size 24 #[.int .i64 sa, .int .i64 sb] := by rw [hW]; exact BxA.new _ _ _
  have kC := complete_any W t F s sa sb (h.below hBW) (Nat.le_trans hfew (by decide)) (fun e he => (hs.ok e he).co)
  have HW := hide hW
  have HB1 := hide hBW
  have HSX := hide hSX
  have HT := hide h
  have HS := hide hs
  have HPS := hide hps
  have HFW := hide hfew
  obtain ⟨bs, hbs⟩ : ∃ b, b = w.heap.size := ⟨_, rfl⟩
  have HBS := hide hbs
  clear hW hBW hSX h hs hps hfew hbs
  go_enter Try.func11, Try.ntmps11
  have cx0 := HSX.out.cell 0 _ rfl
  have cx1 := HSX.out.cell 1 _ rfl
  go_wp2_with fail
  rw [← HW.out]
  refine kC.mono ?_
  rintro ev w2 ⟨v2, rfl, r2, b2⟩
  have HB2 := hide (HB1.out.trans (b2.mono HB1.out.size))
  have HS2 : Hid (BxA w2 w.heap.size 24 #[.int .i64 sa, .int .i64 sb]) := HSX.out.up b2
  obtain ⟨ks, hks⟩ : ∃ ks, ks = keysF (pC sa sb s) s := ⟨_, rfl⟩
  have hkl : ks.length ≤ 1000 := by rw [hks]; exact Nat.le_trans (keysF_len _ _) HFW.out
  have hcm : Cmg ks 1099511627776 := by rw [hks]; exact cmg_of HT.out.nodup HS.out.ok _
  rw [← hks] at r2
  have kS := stretches_any w2 v2 ks 1099511627776 r2 hcm (Nat.le_trans hkl (by decide))
  have HKS := hide hks
  clear hks r2 b2 kC hcm cx0 cx1
  go_wp2_with fail
  refine kS.mono ?_
  rintro ev w3 ⟨v3, rfl, out, o3, say3, hol3, b3⟩
  have HB3 := hide (HB2.out.trans (b3.mono HB2.out.size))
  have HSay := hide say3
  have HS3 : Hid (BxA w3 w.heap.size 24 #[.int .i64 sa, .int .i64 sb]) := HS2.out.up b3
  have hol : out.length ≤ 2000 := by omega
  obtain ⟨va, vc, hv3, hvc1, hvc2, hvc⟩ := o3.at5
  have HAT : Hid (∀ i (hi : i < out.length), ∃ b, va = some ⟨b, 0, none⟩ ∧ At5 w3 b (i * 5) out[i]) := by
    intro i hi
    rcases hvc with ⟨q1, q2⟩ | ⟨b, q, hcs⟩
    · omega
    · exact ⟨b, q, hcs i hi⟩
  have HOL := hide hol
  have HOB : Hid (∀ t ∈ out, B3 t.1) := by
    intro t ht
    have hlt := say3.ne t ht
    have hm := (say3.is t ht t.2.1 (Int.le_refl _) hlt).mem
    rw [HKS.out] at hm
    obtain ⟨e, he, _, q⟩ := (mem_keysF _ _ _).1 hm
    rw [← q]
    exact (HS.out.ok e he).b3
  obtain ⟨n, hn⟩ : ∃ n, n = out.length := ⟨_, rfl⟩
  rw [← hn] at hv3 hvc1
  have hn2 : n ≤ 2000 := by omega
  have HN := hide hn
  unfold maxLen at hvc2
  clear kS o3 say3 hol3 b3 hvc hkl hol hn
  subst hv3
  go_wp2_with fail
  go_loopg [5, 7, 8, 10, 18] n (fun kx v5 _ _ _ v18 wr => ∃ (i : Nat) (acc : List Pc) (x5 : Value), x5 = v5 ∧ v18 = .int .i64 (i : Int) ∧ i ≤ n ∧ n - i ≤ kx ∧ Hid (acc = lkF s (cutS sa sb (out.take i))) ∧ Hid (wr.ownsRow w3.heap.size 34 7 x5 acc.length (pccs acc)) ∧ Hid (Below w3.heap.size w3 wr))
  case atStart => exact ⟨0, [], _, rfl, rfl, Nat.zero_le _, Nat.le_refl _, rfl, ⟨rfl, .inl ⟨rfl, rfl⟩⟩, Below.refl _ _⟩
  case round =>
    obtain ⟨i, acc, x5, rfl, rfl, hi, hkx, HA, HO, HB⟩ := hrel
    by_cases hlt : i < n
    · have hltz : (i : Int) < (n : Int) := by omega
      have hil : i < out.length := by have := HN.out; omega
      obtain ⟨vb, rfl, hat5⟩ := HAT.out i hil
      have hat6 := hat5.below HB.out
      have hbk := HOB.out _ (List.getElem_mem hil)
      have hno := fun q => lkF_no (s := s) (a := sa) (b := sb) hil q
      have hyes := fun q => lkF_yes (s := s) (a := sa) (b := sb) hil q
      obtain ⟨⟨⟨p1, p2, p3⟩, s1, s2⟩, hso⟩ : ∃ s, s = out[i] := ⟨_, rfl⟩
      rw [← hso] at hat6 hbk hno hyes
      have d0 := hat6.c0
      have d1 := hat6.c1
      have d2 := hat6.c2
      have d3 := hat6.c3
      have d4 := hat6.c4
      simp only at d0 d1 d2 d3 d4 hbk hno hyes
      obtain ⟨X, hX⟩ : ∃ X, X = max s1 sa := ⟨_, rfl⟩
      obtain ⟨Y, hY⟩ : ∃ Y, Y = min s2 sb := ⟨_, rfl⟩
      obtain ⟨W7, hW7⟩ : ∃ W7, W7 = wr.alloc (.cells #[.int .i64 p1, .int .i64 p2, .int .i64 p3, .int .i64 s1, .int .i64 s2] 57) := ⟨_, rfl⟩
      have hB7 : Below wr.heap.size wr W7 := by rw [hW7]; exact (Grows.alloc _ _).below
      have HX7 : Hid (BxA W7 wr.heap.size 57 #[.int .i64 p1, .int .i64 p2, .int .i64 p3, .int .i64 s1, .int .i64 s2]) := by apply hide; rw [hW7]; exact BxA.new _ _ _
      have HS7 : Hid (BxA W7 w.heap.size 24 #[.int .i64 sa, .int .i64 sb]) := (HS3.out.up HB.out).up hB7
      have kM := meet_any W7 s1 s2 sa sb
      rw [← hX, ← hY] at kM
      obtain ⟨q, hq⟩ : ∃ q, q = decide (X < Y) := ⟨_, rfl⟩
      rw [← hq] at kM
      rw [← hX, ← hY] at hno hyes
      have c3 := HX7.out.cell 3 _ rfl
      have c4 := HX7.out.cell 4 _ rfl
      have cx0 := (HS3.out.up HB.out).cell 0 _ rfl
      have cx1 := (HS3.out.up HB.out).cell 1 _ rfl
      have hlx : w.heap.size < wr.heap.size := (HS3.out.up HB.out).lt
      have HB7 := hide hB7
      have HW7 := hide hW7
      have HXY : Hid (X = max s1 sa ∧ Y = min s2 sb) := ⟨hX, hY⟩
      have HQ := hide hq
      have HBK := hide hbk
      have HNO := hide hno
      have HYES := hide hyes
      have HW1 : Hid (wrap64 ((i : Int) + 1) = (i : Int) + 1) := by apply hide; rw [← IntWalk.i64_left, IntKind.wrap_i64]; omega
      clear hat5 hat6 hso hil hbk hno hyes hB7 hW7 hX hY hq
      go_wp2_with fail
      rw [← HW7.out]
      refine kM.mono ?_
      rintro ev w8 ⟨rfl, g8⟩
      have HB8 : Hid (Below wr.heap.size wr w8) := HB7.out.trans (g8.below.mono HB7.out.size)
      have HX8 : Hid (BxA w8 wr.heap.size 57 #[.int .i64 p1, .int .i64 p2, .int .i64 p3, .int .i64 s1, .int .i64 s2]) := HX7.out.up g8.below
      have HS8 : Hid (BxA w8 w.heap.size 24 #[.int .i64 sa, .int .i64 sb]) := HS7.out.up g8.below
      clear kM g8 c3 c4 cx0 cx1 hlx
      cases q
      case false =>
        go_wp2_with fail
        go_roundg (n - (i + 1))
        case measure => exact Nat.lt_of_lt_of_le (Nat.sub_lt_sub_left hlt (Nat.lt_succ_self i)) hkx
        case rel =>
          refine ⟨i + 1, acc, x5, rfl, by first | (rw [HW1.out]; rfl) | rfl, hlt, Nat.le_refl _, ?_, ?_, ?_⟩
          · apply hide
            rw [HA.out, HNO.out (by have := of_decide_eq_false HQ.out.symm; omega)]
          · exact owns_below HO.out HB8.out
          · exact HB.out.trans (HB8.out.mono HB.out.size)
      case true =>
        have e3 := HX8.out.cell 3 _ rfl
        have e4 := HX8.out.cell 4 _ rfl
        have ex0 := HS8.out.cell 0 _ rfl
        have ex1 := HS8.out.cell 1 _ rfl
        have kH := shared_any w8 s1 s2 sa sb
        rw [← HXY.out.1, ← HXY.out.2] at kH
        go_wp2_with fail
        refine kH.mono ?_
        rintro ev w9 ⟨rfl, g9⟩
        obtain ⟨W9, hW9⟩ : ∃ W9, W9 = w9.alloc (.cells #[.int .i64 X, .int .i64 Y] 24) := ⟨_, rfl⟩
        have hB9 : Below wr.heap.size wr W9 := by
          rw [hW9]
          exact HB8.out.trans ((g9.trans (Grows.alloc _ _)).below.mono HB8.out.size)
        have HX9 : Hid (BxA W9 wr.heap.size 57 #[.int .i64 p1, .int .i64 p2, .int .i64 p3, .int .i64 s1, .int .i64 s2]) := by apply hide; rw [hW9]; exact HX8.out.up (g9.trans (Grows.alloc _ _)).below
        have HY9 : Hid (BxA W9 w9.heap.size 24 #[.int .i64 X, .int .i64 Y]) := by apply hide; rw [hW9]; exact BxA.new _ _ _
        obtain ⟨W10, hW10⟩ : ∃ W10, W10 = W9.alloc (.cells #[.int .i64 p1, .int .i64 p2, .int .i64 p3] 55) := ⟨_, rfl⟩
        have hB10 : Below W9.heap.size W9 W10 := by rw [hW10]; exact (Grows.alloc _ _).below
        have hT10 : Tl W10 t F s := (((HT.out.below HB3.out).below HB.out).below hB9).below hB10
        have hrk : RdsK 3 W10 (.slice (some ⟨W9.heap.size, 0, none⟩) 1 1) ([(p1, p2, p3)] : List K3).length (kcs [(p1, p2, p3)]) := by
          rw [hW10]
          exact RdsK.of_own (lit_ownK W9 [.int .i64 p1, .int .i64 p2, .int .i64 p3] 55 1 3 rfl (by simp [maxLen]))
        have kG := segments_any W10 t F s (.slice (some ⟨W9.heap.size, 0, none⟩) 1 1) [(p1, p2, p3)] hT10 hrk (fun k hk => by simp at hk; rw [hk]; exact HBK.out) (Nat.le_trans (segL_len HPS.out _) (by simp))
        obtain ⟨sg, hsg⟩ : ∃ sg, sg = segL s [(p1, p2, p3)] := ⟨_, rfl⟩
        have hsgl : sg.length ≤ 1000 := by rw [hsg]; exact Nat.le_trans (segL_len HPS.out _) (by simp)
        rw [← hsg] at kG
        have HSG := hide hsg
        have HW9 := hide hW9
        have HW10 := hide hW10
        have HB9 := hide hB9
        have HB10 := hide hB10
        have f0 := HX9.out.cell 0 _ rfl
        have f1 := HX9.out.cell 1 _ rfl
        have f2 := HX9.out.cell 2 _ rfl
        clear kH g9 e3 e4 ex0 ex1 hW9 hB9 hW10 hB10 hT10 hrk hsg
        go_upto_region 9 with fail
        rw [← HW9.out]
        go_wp2_with fail
        rw [← HW10.out]
        refine kG.mono ?_
        rintro ev w11 ⟨v11, rfl, o11, b11⟩
        have HB11 : Hid (Below wr.heap.size wr w11) := HB9.out.trans ((HB10.out.trans (b11.mono HB10.out.size)).mono HB9.out.size)
        have HY11 : Hid (BxA w11 w9.heap.size 24 #[.int .i64 X, .int .i64 Y]) := (HY9.out.up HB10.out).up b11
        have HO11 : Hid (w11.ownsRow w3.heap.size 34 7 x5 acc.length (pccs acc)) := owns_below HO.out HB11.out
        have HOG := hide o11
        obtain ⟨ga, gc, hg11, hgc1, hgc2, hgc⟩ := (RdsK.of_own o11).segs
        have HGC := hide hgc
        have hx5 : ∀ r, x5.ownBlock = some r → r < wr.heap.size := fun r hr => (own_lt HO.out r hr).2
        have HX5 := hide hx5
        have HGB : Hid (∀ r, v11.ownBlock = some r → wr.heap.size < r) := by
          intro r hr
          have h1 := (own_lt o11 r hr).1
          have h2 := HB10.out.size
          have h3 := HX9.out.lt
          omega
        have HY9L : Hid (wr.heap.size < w9.heap.size + 1 ∧ wr.heap.size ≤ w9.heap.size) := by
          have h1 := HX9.out.lt
          have h2 : W9.heap.size = w9.heap.size + 1 := by rw [HW9.out]; simp
          apply hide
          omega
        obtain ⟨np, hnp⟩ : ∃ np, np = sg.length := ⟨_, rfl⟩
        rw [← hnp] at hg11 hgc1 hsgl
        have HNP := hide hnp
        unfold maxLen at hgc2
        clear kG o11 b11 hgc hx5 hnp f0 f1 f2
        subst hg11
        go_wp2_with fail
        go_loopg [5, 10, 37] np (fun kx v5 _ v37 wq => ∃ (j : Nat) (ac2 : List Pc) (y5 : Value), y5 = v5 ∧ v37 = .int .i64 (j : Int) ∧ j ≤ np ∧ np - j ≤ kx ∧ Hid (ac2 = acc ++ (sg.take j).map fun g => ((g, X, Y) : Pc)) ∧ Hid (wq.ownsRow w3.heap.size 34 7 y5 ac2.length (pccs ac2)) ∧ Hid (Gr w11 wq x5 y5))
        case atStart => exact ⟨0, acc, _, rfl, rfl, Nat.zero_le _, Nat.le_refl _, by apply hide; simp, HO11, Gr.refl _ _⟩
        case round =>
          rename World => wq
          obtain ⟨j, ac2, y5, rfl, rfl, hj, hkx2, HA2, HO2, HG2⟩ := hrel
          by_cases hjl : j < np
          · have hjz : (j : Int) < (np : Int) := by omega
            have hjp : j < sg.length := by have := HNP.out; omega
            obtain ⟨gb, go, rfl, hcs⟩ := HGC.out (by omega)
            have hat := hcs j hjp
            have hgq : ∀ o' u, w11.cell? ⟨gb, o', none⟩ = some u → wq.cell? ⟨gb, o', none⟩ = some u := fun o' u hu => by
              have hl := World.block_lt_of_cell? _ _ hu
              have hne : some gb ≠ x5.ownBlock := fun q => by
                have h1 := HX5.out gb q.symm
                have h2 := HGB.out gb rfl
                omega
              rw [World.cell?_of_block (w := w11) (HG2.out.g.block gb hl hne)]
              exact hu
            obtain ⟨⟨⟨g1, g2, g3⟩, g4, g5⟩, hge⟩ : ∃ g, g = sg[j] := ⟨_, rfl⟩
            rw [← hge] at hat
            have r0 := hgq _ _ hat.c0
            have r1 := hgq _ _ hat.c1
            have r2 := hgq _ _ hat.c2
            have r3 := hgq _ _ hat.c3
            have r4 := hgq _ _ hat.c4
            simp only at r0 r1 r2 r3 r4
            have hYq : BxA wq w9.heap.size 24 #[.int .i64 X, .int .i64 Y] := HY11.out.gr HG2.out.g fun q => by
              have h1 := HX5.out _ q
              have h2 := HY9L.out.2
              omega
            have y0 := hYq.cell 0 _ rfl
            have y1 := hYq.cell 1 _ rfl
            have hly : w9.heap.size < wq.heap.size := hYq.lt
            have hap : (sg.take (j + 1)).map (fun g => ((g, X, Y) : Pc)) = (sg.take j).map (fun g => ((g, X, Y) : Pc)) ++ [(((g1, g2, g3), g4, g5), X, Y)] := by
              rw [List.take_succ_eq_append_getElem hjp, List.map_append, hge]
              rfl
            have HAP := hide hap
            have hal : ac2.length + 1 ≤ 3000000 := by
              have h1 : acc.length ≤ 2000000 := by
                rw [HA.out]
                refine Nat.le_trans (lkF_len HPS.out _ _ _) ?_
                rw [List.length_take]
                have := HOL.out
                have : min i out.length ≤ 2000 := by omega
                omega
              rw [HA2.out, List.length_append, List.length_map, List.length_take]
              have := HNP.out
              omega
            have hw13 : World.heap wq = wq.heap := rfl
            obtain ⟨w12, hw12⟩ : ∃ w12, w12 = wq.alloc (.cells #[.int .i64 g1, .int .i64 g2, .int .i64 g3, .int .i64 g4, .int .i64 g5] 32) := ⟨_, rfl⟩
            obtain ⟨w4, hw4⟩ : ∃ w4, w4 = w12.alloc (.cells #[.int .i64 g1, .int .i64 g2, .int .i64 g3, .int .i64 g4, .int .i64 g5, .int .i64 X, .int .i64 Y] 34) := ⟨_, rfl⟩
            have hs12 : w12.heap.size = wq.heap.size + 1 := by rw [hw12]; simp
            have HLO : Hid (RdsK 7 w4 (.slice (some ⟨wq.heap.size + 1, 0, none⟩) 1 1) 1 [.int .i64 g1, .int .i64 g2, .int .i64 g3, .int .i64 g4, .int .i64 g5, .int .i64 X, .int .i64 Y]) := by
              apply hide
              rw [hw4, ← hs12]
              exact RdsK.of_own (lit_ownK w12 [.int .i64 g1, .int .i64 g2, .int .i64 g3, .int .i64 g4, .int .i64 g5, .int .i64 X, .int .i64 Y] 34 1 7 rfl (by simp [maxLen]))
            have HAO : Hid (w4.ownsRow w3.heap.size 34 7 y5 ac2.length (pccs ac2)) := by apply hide; rw [hw4, hw12]; exact World.ownsRow.alloc (World.ownsRow.alloc HO2.out _) _
            have HW4 : Hid (w4 = (wq.alloc (.cells #[.int .i64 g1, .int .i64 g2, .int .i64 g3, .int .i64 g4, .int .i64 g5] 32)).alloc (.cells #[.int .i64 g1, .int .i64 g2, .int .i64 g3, .int .i64 g4, .int .i64 g5, .int .i64 X, .int .i64 Y] 34)) := by apply hide; rw [hw4, hw12]
            have hsz4 : w3.heap.size ≤ w4.heap.size := by
              have h1 := HB.out.size
              have h2 := HB11.out.size
              have h3 := HG2.out.g.size
              rw [hw4, hw12]
              simp
              omega
            have HW2 : Hid (wrap64 ((j : Int) + 1) = (j : Int) + 1) := by apply hide; rw [← IntWalk.i64_left, IntKind.wrap_i64]; omega
            clear hat hgq hge hYq hap hw12 hw4 hcs hs12 hw13
            go_wp2_with (first | (at_builtin; rw [← HW4.out]; refine wpList_appF rfl _ _ 29 rfl w3.heap.size 34 i0 (.agg #[.int .i64 0, .int .i64 0, .int .i64 0, .int .i64 0, .int .i64 0, .int .i64 0, .int .i64 0]) 7 56 Try.underlying29 hi0 hi1 hi2 hi3 rfl (by decide) y5 ac2.length (pccs ac2) rfl HAO.out (.slice (some ⟨wq.heap.size + 1, 0, none⟩) 1 1) 1 [.int .i64 g1, .int .i64 g2, .int .i64 g3, .int .i64 g4, .int .i64 g5, .int .i64 X, .int .i64 Y] rfl HLO.out (fun u hu => by simp at hu; rcases hu with rfl | rfl | rfl | rfl | rfl | rfl | rfl <;> rfl) (by unfold maxLen; omega) (by omega) hsz4 ?_; intro v6 w6 o6 g6 hx6; have H6 : Hid (w6.ownsRow w3.heap.size 34 7 v6 (ac2.length + 1) (pccs ac2 ++ [.int .i64 g1, .int .i64 g2, .int .i64 g3, .int .i64 g4, .int .i64 g5, .int .i64 X, .int .i64 Y]) ∧ w4.grownBy w6 y5.ownBlock) := ⟨o6, g6⟩; have HX6 : Hid _ := hx6; clear o6 g6 hx6))
            obtain ⟨o6, g6⟩ := H6.out
            have gA : wq.grownBy w6 y5.ownBlock := grown_trans (by rw [HW4.out]; exact grown_trans (grown_alloc _ _ _) (grown_alloc _ _ _)) g6
            have s4 : wq.heap.size ≤ w4.heap.size := by rw [HW4.out]; simp; omega
            go_roundg (np - (j + 1))
            case measure => exact Nat.lt_of_lt_of_le (Nat.sub_lt_sub_left hjl (Nat.lt_succ_self j)) hkx2
            case rel =>
              refine ⟨j + 1, ac2 ++ [(((g1, g2, g3), g4, g5), X, Y)], v6, rfl, by first | (rw [HW2.out]; rfl) | rfl, hjl, Nat.le_refl _, ?_, ?_, ?_⟩
              · apply hide
                rw [HA2.out, HAP.out, List.append_assoc]
              · apply hide
                rw [pccs_append, List.length_append]
                exact o6
              · refine HG2.out.trans (Gr.of gA ?_)
                rcases HX6.out with q | ⟨g, q, hg⟩
                · exact .inl q
                · exact .inr ⟨g, q, by omega⟩
          · have hjz : ¬ (j : Int) < (np : Int) := by omega
            go_wp2_with fail
            go_roundg (n - (i + 1))
            case measure => exact Nat.lt_of_lt_of_le (Nat.sub_lt_sub_left hlt (Nat.lt_succ_self i)) hkx
            case rel =>
              refine ⟨i + 1, ac2, y5, rfl, by first | (rw [HW1.out]; rfl) | rfl, hlt, Nat.le_refl _, ?_, HO2, ?_⟩
              · apply hide
                rw [HA2.out, HYES.out (of_decide_eq_true HQ.out.symm), ← HSG.out, ← HA.out, List.take_of_length_le (by have := HNP.out; omega)]
              · have h1 : Below w3.heap.size w3 w11 := HB.out.trans (HB11.out.mono HB.out.size)
                exact Below.gr h1 h1.size HG2.out.g fun r hr => (own_lt HO.out r hr).1
    · have hltz : ¬ (i : Int) < (n : Int) := by omega
      go_wp2_with fail
      go_ret
      have e1 : lkF s (cutS sa sb out) = acc := by
        rw [HA.out, List.take_of_length_le (by have := HN.out; omega)]
      refine ⟨_, rfl, out, ?_, ?_, HB3.out.trans (HB.out.mono HB3.out.size)⟩
      · rw [← HKS.out]; exact HSay.out
      · rw [e1]; exact owns_mono HO.out HB3.out.size
end Go.Proofs.Ytgbmigfamefenaa
