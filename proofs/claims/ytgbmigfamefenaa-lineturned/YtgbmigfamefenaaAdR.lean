/- Contract: Add. -/
import Derived.Test.YtgbmigfamefenaaAdM
namespace Go.Proofs.Ytgbmigfamefenaa
open Go.Shelf Go.RowKit Go.Maps Go.Sort
set_option linter.unusedVariables false

set_option maxRecDepth 100000 in
set_option maxHeartbeats 12800000 in
theorem add_any (w : World) (t : Nat) (F : Nat → Prop) (s : List Es) (k1 k2 k3 gp gc : Int) (h : Tl w t F s) (hs : Wf s) (hb3 : B3 (k1, k2, k3)) (hfew : s.length ≤ 100000) (hps : ∀ e ∈ s, e.2.2.length ≤ 100000) :
    Calls Try.prog 18 #[.pointer (some ⟨t, 0, none⟩), .agg #[.int .i64 k1, .int .i64 k2, .int .i64 k3, .int .i64 gp, .int .i64 gc]] w (AdP w t F (addF s ((k1, k2, k3), gp, gc))) := by
  have mixed : Try.prog.follows .mixedOrders = true := by kernel_rfl
  have hmm := @run_makeMap Try.prog
  obtain ⟨mo, Z, hz⟩ := h
  obtain ⟨W0, hW0⟩ : ∃ W0, W0 = w.alloc (.cells #[.int .i64 k1, .int .i64 k2, .int .i64 k3, .int .i64 gp, .int .i64 gc] 32) := ⟨_, rfl⟩
  have HG0 : Hid (Grows w W0) := by apply hide; rw [hW0]; exact Grows.alloc _ _
  have HBX0 : Hid (BxA W0 w.heap.size 32 #[.int .i64 k1, .int .i64 k2, .int .i64 k3, .int .i64 gp, .int .i64 gc]) := by apply hide; rw [hW0]; exact BxA.new _ _ _
  have kM := mayBe_any W0 k1 k2 k3 gp gc
  have HW0 : Hid (W0 = w.alloc (.cells #[.int .i64 k1, .int .i64 k2, .int .i64 k3, .int .i64 gp, .int .i64 gc] 32)) := hW0
  have HZ := hide hz
  have HS := hide hs
  have HB3 : Hid (B3 (k1, k2, k3)) := hb3
  have HFW := hide hfew
  have HPS := hide hps
  have hzl : Z.length ≤ 100000 := by have := congrArg List.length hz.fs; rw [List.length_map] at this; omega
  have HFEW := hide hzl
  obtain ⟨b3, hb3x⟩ : ∃ b, b = w.heap.size := ⟨_, rfl⟩
  rw [← hb3x] at HBX0
  have HB3E := hide hb3x
  clear hW0 hz hs hb3 hfew hps hzl
  obtain ⟨q, hq⟩ : ∃ q, q = may ((k1, k2, k3), gp, gc) := ⟨_, rfl⟩
  rw [← hq] at kM
  have HQ := hide hq
  clear hq
  cases q
  case false =>
    have HE : Hid (∀ w', Grows W0 w' → AdP w t F (addF s ((k1, k2, k3), gp, gc)) (.returned (.int .i64 1)) w') := by
      intro w' hg
      rw [addF_arg HQ.out.symm]
      exact ⟨rfl, F, Tw.same ⟨mo, Z, HZ.out⟩ (HG0.out.trans hg).below⟩
    clear hb3x
    go_enter Try.func18, Try.ntmps18
    go_wp2_with fail
    rw [← HW0.out]
    refine kM.mono ?_
    rintro ev w1 ⟨rfl, g1⟩
    have HE1 := hide (HE.out w1 g1)
    clear g1 kM
    go_wp2_with fail
    go_ret
    exact HE1.out
  case true =>
    clear hb3x
    cases mo with
    | some m =>
      go_enter Try.func18, Try.ntmps18
      go_wp2_with fail
      rw [← HW0.out]
      refine kM.mono ?_
      rintro ev W ⟨rfl, g1⟩
      go_upto_region 3 with fail
      clear kM
      have HZW : Hid (TlZ W t F s (some m) Z) := HZ.out.below (HG0.out.trans g1).below
      have HT0 : Hid (Tw w W t F s F) := Tw.same ⟨some m, Z, HZ.out⟩ (HG0.out.trans g1).below
      have HBW : Hid (BxA W b3 32 #[.int .i64 k1, .int .i64 k2, .int .i64 k3, .int .i64 gp, .int .i64 gc]) := HBX0.out.up g1.below
      have c0 : W.cell? ⟨t, 0, none⟩ = some (.map (some m)) := HZW.out.b.cell 0 _ rfl
      have hnl := run_eql_map_nil (P := Try.prog) W 61 55 67 (some m) Try.underlying61
      clear g1
      go_upto_region 5 with fail
      clear c0 hnl
      obtain ⟨c, pv, ps, ob, hfnd⟩ := Fnd.ex Z (k1, k2, k3)
      obtain ⟨pa, np, pc, hpv, hnp⟩ : ∃ pa np pc, pv = .slice pa np pc ∧ np = ps.length := by
        obtain ⟨a, c', e⟩ := own_sl (hfnd.own HZW.out)
        exact ⟨a, _, c', e, rfl⟩
      subst hpv
      have HNP := hide hnp
      have HFN := hide hfnd
      have HRD : Hid ((∀ w', Below W.heap.size W w' → w'.cell? ⟨t, 0, none⟩ = some (.map (some m))) ∧ (∀ w', Below W.heap.size W w' → w'.cell? ⟨b3, 0, none⟩ = some (.int .i64 k1) ∧ w'.cell? ⟨b3, 1, none⟩ = some (.int .i64 k2) ∧ w'.cell? ⟨b3, 2, none⟩ = some (.int .i64 k3) ∧ w'.cell? ⟨b3, 3, none⟩ = some (.int .i64 gp) ∧ w'.cell? ⟨b3, 4, none⟩ = some (.int .i64 gc)) ∧ (∀ w', Below W.heap.size W w' → (Instr.lookup 61 (.map (some m)) (.agg #[.int .i64 k1, .int .i64 k2, .int .i64 k3]) true).run Try.prog w' = .ok (.tuple #[.agg #[.int .i64 c, (Value.slice pa np pc)], .bool ob]) w')) := by
        refine ⟨fun w' hb => (HZW.out.below hb).b.cell 0 _ rfl, fun w' hb => ?_, fun w' hb => HFN.out.look (HZW.out.below hb) HB3.out true⟩
        have hx := HBW.out.up hb
        exact ⟨hx.cell 0 _ rfl, hx.cell 1 _ rfl, hx.cell 2 _ rfl, hx.cell 3 _ rfl, hx.cell 4 _ rfl⟩
      have HOW : Hid (OwI W (Value.slice pa np pc) ps) := hfnd.own HZW.out
      have HUP : Hid (ps.Pairwise (· < ·)) := hfnd.rise HZW.out HS.out
      have HPL : Hid (ps.length ≤ 100000) := hfnd.few HZW.out HPS.out
      have HSY := hide (hfnd.say HZW.out)
      have hSig0 : Below W.heap.size W W.drew := (Below.refl _ _).drew
      rw [← HB3E.out]
      have hS00 : True := trivial
      clear hfnd hnp
      try dsimp only
      refine wp_region_invF (β := Value × Value × Value × Value × Value × Value × Value × Value × Value × Value × Value × Value) (fun a0 xq => ((((((((((((a0.put (some 26) (xq.1)).put (some 27) (xq.2.1)).put (some 28) (xq.2.2.1)).put (some 29) (xq.2.2.2.1)).put (some 30) (xq.2.2.2.2.1)).put (some 31) (xq.2.2.2.2.2.1)).put (some 32) (xq.2.2.2.2.2.2.1)).put (some 25) (xq.2.2.2.2.2.2.2.1)).put (some 33) (xq.2.2.2.2.2.2.2.2.1)).put (some 34) (xq.2.2.2.2.2.2.2.2.2.1)).put (some 5) (xq.2.2.2.2.2.2.2.2.2.2.1)).put (some 6) (xq.2.2.2.2.2.2.2.2.2.2.2))) ?fr1002 (fun xq d w' => (Below W.heap.size W w') ∧ ((d 0 = true → (xq.1) = .pointer (some ⟨t, 0, none⟩)) ∧ (d 1 = true → (xq.2.1) = .pointer (some ⟨t, 0, none⟩)) ∧ (d 2 = true → (xq.2.2.1) = .pointer (some ⟨t, 0, none⟩)) ∧ (d 3 = true → (xq.2.2.2.1) = .map (some m)) ∧ (d 4 = true → (xq.2.2.2.2.1) = .agg #[.int .i64 k1, .int .i64 k2, .int .i64 k3, .int .i64 gp, .int .i64 gc]) ∧ (d 5 = true → (xq.2.2.2.2.2.1) = .agg #[.int .i64 k1, .int .i64 k2, .int .i64 k3]) ∧ (d 6 = true → (xq.2.2.2.2.2.2.1) = .tuple #[.agg #[.int .i64 c, (Value.slice pa np pc)], .bool ob]) ∧ (d 7 = true → (xq.2.2.2.2.2.2.2.1) = .tuple #[.agg #[.int .i64 c, (Value.slice pa np pc)], .bool ob]) ∧ (d 8 = true → (xq.2.2.2.2.2.2.2.2.1) = .agg #[.int .i64 c, (Value.slice pa np pc)]) ∧ (d 9 = true → (xq.2.2.2.2.2.2.2.2.2.1) = .bool ob) ∧ (d 12 = true → (xq.2.2.2.2.2.2.2.2.2.2.2) = .bool ob)) ∧ ∃ j : Nat, j ≤ 2 ∧ (d 10 = decide (0 < j) ∧ d 11 = decide (1 < j)) ∧ ((j = 0 → True) ∧ (j = 1 → ∃ g, (xq.2.2.2.2.2.2.2.2.2.2.1) = .pointer (some ⟨g, 0, none⟩) ∧ BxA w' g 67 #[.int .i64 0, .slice none 0 0] ∧ W.heap.size ≤ g) ∧ (j = 2 → ∃ g, (xq.2.2.2.2.2.2.2.2.2.2.1) = .pointer (some ⟨g, 0, none⟩) ∧ BxA w' g 67 #[.int .i64 c, (Value.slice pa np pc)] ∧ W.heap.size ≤ g))) ?lay1002 mixed (by kernel_rfl) ?h01002 ?hs1002 ?he1002
      case lay1002 =>
        intro xq
        simp only [Act.put, List.setIfInBounds_toArray, List.set_cons_zero, List.set_cons_succ]
        rfl
      case h01002 =>
        refine ⟨(undef, undef, undef, undef, undef, undef, undef, undef, undef, undef, undef, undef), rfl, ?sig1002, ⟨(fun h => by cases h), (fun h => by cases h), (fun h => by cases h), (fun h => by cases h), (fun h => by cases h), (fun h => by cases h), (fun h => by cases h), (fun h => by cases h), (fun h => by cases h), (fun h => by cases h), (fun h => by cases h)⟩, 0, Nat.zero_le _, ⟨rfl, rfl⟩, ?S01002, (fun h => by cases h), (fun h => by cases h)⟩
        case sig1002 => exact hSig0
        case S01002 => exact fun _ => hS00
      case hs1002 =>
        refine ⟨?_, ?_, ?_, ?_, ?_, ?_, ?_, ?_, ?_, ?_, ?_, ?_, ?_, trivial⟩
        · rintro d ⟨x26, x27, x28, x29, x30, x31, x32, x25, x33, x34, x5, x6⟩ w' hI hd hdp KQ hK
          dsimp only at hI
          obtain ⟨hS, ⟨f0, f1, f2, f3, f4, f5, f6, f7, f8, f9, f12⟩, j, hj, ⟨dd10, dd11⟩, ⟨p0, p1, p2⟩⟩ := hI
          have HF : Hid _ := And.intro hS (And.intro (And.intro f0 (And.intro f1 (And.intro f2 (And.intro f3 (And.intro f4 (And.intro f5 (And.intro f6 (And.intro f7 (And.intro f8 (And.intro f9 f12)))))))))) (And.intro hj (And.intro (And.intro dd10 dd11) (And.intro p0 (And.intro p1 p2)))))
          clear hS f0 f1 f2 f3 f4 f5 f6 f7 f8 f9 f12 hj dd10 dd11 p0 p1 p2 hdp hd
          refine Opn.mk ?_
          dsimp only
          go_simp
          obtain ⟨hS, ⟨f0, f1, f2, f3, f4, f5, f6, f7, f8, f9, f12⟩, hj, ⟨dd10, dd11⟩, ⟨p0, p1, p2⟩⟩ := HF.out
          exact hK.out (.pointer (some ⟨t, 0, none⟩), x27, x28, x29, x30, x31, x32, x25, x33, x34, x5, x6) _ ⟨hS, ⟨(fun _ => rfl), (fun h => f1 (upd_ne h (by decide))), (fun h => f2 (upd_ne h (by decide))), (fun h => f3 (upd_ne h (by decide))), (fun h => f4 (upd_ne h (by decide))), (fun h => f5 (upd_ne h (by decide))), (fun h => f6 (upd_ne h (by decide))), (fun h => f7 (upd_ne h (by decide))), (fun h => f8 (upd_ne h (by decide))), (fun h => f9 (upd_ne h (by decide))), (fun h => f12 (upd_ne h (by decide)))⟩, j, hj, ⟨((upd_no (by decide)).trans dd10), ((upd_no (by decide)).trans dd11)⟩, ⟨p0, p1, p2⟩⟩
        · rintro d ⟨x26, x27, x28, x29, x30, x31, x32, x25, x33, x34, x5, x6⟩ w' hI hd hdp KQ hK
          dsimp only at hI
          obtain ⟨hS, ⟨f0, f1, f2, f3, f4, f5, f6, f7, f8, f9, f12⟩, j, hj, ⟨dd10, dd11⟩, ⟨p0, p1, p2⟩⟩ := hI
          obtain rfl := f0 (hdp 0 (by decide +kernel))
          have HF : Hid _ := And.intro hS (And.intro (And.intro f0 (And.intro f1 (And.intro f2 (And.intro f3 (And.intro f4 (And.intro f5 (And.intro f6 (And.intro f7 (And.intro f8 (And.intro f9 f12)))))))))) (And.intro hj (And.intro (And.intro dd10 dd11) (And.intro p0 (And.intro p1 p2)))))
          clear hS f0 f1 f2 f3 f4 f5 f6 f7 f8 f9 f12 hj dd10 dd11 p0 p1 p2 hdp hd
          refine Opn.mk ?_
          dsimp only
          go_simp
          obtain ⟨hS, ⟨f0, f1, f2, f3, f4, f5, f6, f7, f8, f9, f12⟩, hj, ⟨dd10, dd11⟩, ⟨p0, p1, p2⟩⟩ := HF.out
          exact hK.out (.pointer (some ⟨t, 0, none⟩), .pointer (some ⟨t, 0, none⟩), x28, x29, x30, x31, x32, x25, x33, x34, x5, x6) _ ⟨hS, ⟨(fun _ => rfl), (fun _ => rfl), (fun h => f2 (upd_ne h (by decide))), (fun h => f3 (upd_ne h (by decide))), (fun h => f4 (upd_ne h (by decide))), (fun h => f5 (upd_ne h (by decide))), (fun h => f6 (upd_ne h (by decide))), (fun h => f7 (upd_ne h (by decide))), (fun h => f8 (upd_ne h (by decide))), (fun h => f9 (upd_ne h (by decide))), (fun h => f12 (upd_ne h (by decide)))⟩, j, hj, ⟨((upd_no (by decide)).trans dd10), ((upd_no (by decide)).trans dd11)⟩, ⟨p0, p1, p2⟩⟩
        · rintro d ⟨x26, x27, x28, x29, x30, x31, x32, x25, x33, x34, x5, x6⟩ w' hI hd hdp KQ hK
          dsimp only at hI
          obtain ⟨hS, ⟨f0, f1, f2, f3, f4, f5, f6, f7, f8, f9, f12⟩, j, hj, ⟨dd10, dd11⟩, ⟨p0, p1, p2⟩⟩ := hI
          obtain rfl := f1 (hdp 1 (by decide +kernel))
          have HF : Hid _ := And.intro hS (And.intro (And.intro f0 (And.intro f1 (And.intro f2 (And.intro f3 (And.intro f4 (And.intro f5 (And.intro f6 (And.intro f7 (And.intro f8 (And.intro f9 f12)))))))))) (And.intro hj (And.intro (And.intro dd10 dd11) (And.intro p0 (And.intro p1 p2)))))
          clear hS f0 f1 f2 f3 f4 f5 f6 f7 f8 f9 f12 hj dd10 dd11 p0 p1 p2 hdp hd
          refine Opn.mk ?_
          dsimp only
          go_simp
          obtain ⟨hS, ⟨f0, f1, f2, f3, f4, f5, f6, f7, f8, f9, f12⟩, hj, ⟨dd10, dd11⟩, ⟨p0, p1, p2⟩⟩ := HF.out
          exact hK.out (x26, .pointer (some ⟨t, 0, none⟩), .pointer (some ⟨t, 0, none⟩), x29, x30, x31, x32, x25, x33, x34, x5, x6) _ ⟨hS, ⟨(fun h => f0 (upd_ne h (by decide))), (fun _ => rfl), (fun _ => rfl), (fun h => f3 (upd_ne h (by decide))), (fun h => f4 (upd_ne h (by decide))), (fun h => f5 (upd_ne h (by decide))), (fun h => f6 (upd_ne h (by decide))), (fun h => f7 (upd_ne h (by decide))), (fun h => f8 (upd_ne h (by decide))), (fun h => f9 (upd_ne h (by decide))), (fun h => f12 (upd_ne h (by decide)))⟩, j, hj, ⟨((upd_no (by decide)).trans dd10), ((upd_no (by decide)).trans dd11)⟩, ⟨p0, p1, p2⟩⟩
        · rintro d ⟨x26, x27, x28, x29, x30, x31, x32, x25, x33, x34, x5, x6⟩ w' hI hd hdp KQ hK
          dsimp only at hI
          obtain ⟨hS, ⟨f0, f1, f2, f3, f4, f5, f6, f7, f8, f9, f12⟩, j, hj, ⟨dd10, dd11⟩, ⟨p0, p1, p2⟩⟩ := hI
          obtain rfl := f2 (hdp 2 (by decide +kernel))
          have cc := HRD.out.1 w' hS
          have HF : Hid _ := And.intro hS (And.intro (And.intro f0 (And.intro f1 (And.intro f2 (And.intro f3 (And.intro f4 (And.intro f5 (And.intro f6 (And.intro f7 (And.intro f8 (And.intro f9 f12)))))))))) (And.intro hj (And.intro (And.intro dd10 dd11) (And.intro p0 (And.intro p1 p2)))))
          clear hS f0 f1 f2 f3 f4 f5 f6 f7 f8 f9 f12 hj dd10 dd11 p0 p1 p2 hdp hd
          refine Opn.mk ?_
          dsimp only
          go_simp
          obtain ⟨hS, ⟨f0, f1, f2, f3, f4, f5, f6, f7, f8, f9, f12⟩, hj, ⟨dd10, dd11⟩, ⟨p0, p1, p2⟩⟩ := HF.out
          exact hK.out (x26, x27, .pointer (some ⟨t, 0, none⟩), .map (some m), x30, x31, x32, x25, x33, x34, x5, x6) _ ⟨hS, ⟨(fun h => f0 (upd_ne h (by decide))), (fun h => f1 (upd_ne h (by decide))), (fun _ => rfl), (fun _ => rfl), (fun h => f4 (upd_ne h (by decide))), (fun h => f5 (upd_ne h (by decide))), (fun h => f6 (upd_ne h (by decide))), (fun h => f7 (upd_ne h (by decide))), (fun h => f8 (upd_ne h (by decide))), (fun h => f9 (upd_ne h (by decide))), (fun h => f12 (upd_ne h (by decide)))⟩, j, hj, ⟨((upd_no (by decide)).trans dd10), ((upd_no (by decide)).trans dd11)⟩, ⟨p0, p1, p2⟩⟩
        · rintro d ⟨x26, x27, x28, x29, x30, x31, x32, x25, x33, x34, x5, x6⟩ w' hI hd hdp KQ hK
          dsimp only at hI
          obtain ⟨hS, ⟨f0, f1, f2, f3, f4, f5, f6, f7, f8, f9, f12⟩, j, hj, ⟨dd10, dd11⟩, ⟨p0, p1, p2⟩⟩ := hI
          obtain ⟨cs0, cs1, cs2, cs3, cs4⟩ := HRD.out.2.1 w' hS
          have HF : Hid _ := And.intro hS (And.intro (And.intro f0 (And.intro f1 (And.intro f2 (And.intro f3 (And.intro f4 (And.intro f5 (And.intro f6 (And.intro f7 (And.intro f8 (And.intro f9 f12)))))))))) (And.intro hj (And.intro (And.intro dd10 dd11) (And.intro p0 (And.intro p1 p2)))))
          clear hS f0 f1 f2 f3 f4 f5 f6 f7 f8 f9 f12 hj dd10 dd11 p0 p1 p2 hdp hd
          refine Opn.mk ?_
          dsimp only
          go_simp
          obtain ⟨hS, ⟨f0, f1, f2, f3, f4, f5, f6, f7, f8, f9, f12⟩, hj, ⟨dd10, dd11⟩, ⟨p0, p1, p2⟩⟩ := HF.out
          exact hK.out (x26, x27, x28, x29, .agg #[.int .i64 k1, .int .i64 k2, .int .i64 k3, .int .i64 gp, .int .i64 gc], x31, x32, x25, x33, x34, x5, x6) _ ⟨hS, ⟨(fun h => f0 (upd_ne h (by decide))), (fun h => f1 (upd_ne h (by decide))), (fun h => f2 (upd_ne h (by decide))), (fun h => f3 (upd_ne h (by decide))), (fun _ => rfl), (fun h => f5 (upd_ne h (by decide))), (fun h => f6 (upd_ne h (by decide))), (fun h => f7 (upd_ne h (by decide))), (fun h => f8 (upd_ne h (by decide))), (fun h => f9 (upd_ne h (by decide))), (fun h => f12 (upd_ne h (by decide)))⟩, j, hj, ⟨((upd_no (by decide)).trans dd10), ((upd_no (by decide)).trans dd11)⟩, ⟨p0, p1, p2⟩⟩
        · rintro d ⟨x26, x27, x28, x29, x30, x31, x32, x25, x33, x34, x5, x6⟩ w' hI hd hdp KQ hK
          dsimp only at hI
          obtain ⟨hS, ⟨f0, f1, f2, f3, f4, f5, f6, f7, f8, f9, f12⟩, j, hj, ⟨dd10, dd11⟩, ⟨p0, p1, p2⟩⟩ := hI
          obtain rfl := f4 (hdp 4 (by decide +kernel))
          have kk := keyOf_any w' k1 k2 k3 gp gc
          unfold kv at kk
          simp only at kk
          have HF : Hid _ := And.intro hS (And.intro (And.intro f0 (And.intro f1 (And.intro f2 (And.intro f3 (And.intro f4 (And.intro f5 (And.intro f6 (And.intro f7 (And.intro f8 (And.intro f9 f12)))))))))) (And.intro hj (And.intro (And.intro dd10 dd11) (And.intro p0 (And.intro p1 p2)))))
          clear hS f0 f1 f2 f3 f4 f5 f6 f7 f8 f9 f12 hj dd10 dd11 p0 p1 p2 hdp hd
          refine Opn.mk ?_
          dsimp only
          go_simp
          go_wp2_with (first | (go_at_call 30; with_reducible refine kk.mono ?_; rintro e5 w5 ⟨rfl, g5⟩))
          obtain ⟨hS, ⟨f0, f1, f2, f3, f4, f5, f6, f7, f8, f9, f12⟩, hj, ⟨dd10, dd11⟩, ⟨p0, p1, p2⟩⟩ := HF.out
          refine hK.out (x26, x27, x28, x29, .agg #[.int .i64 k1, .int .i64 k2, .int .i64 k3, .int .i64 gp, .int .i64 gc], .agg #[.int .i64 k1, .int .i64 k2, .int .i64 k3], x32, x25, x33, x34, x5, x6) _ ⟨?sg, ⟨(fun h => f0 (upd_ne h (by decide))), (fun h => f1 (upd_ne h (by decide))), (fun h => f2 (upd_ne h (by decide))), (fun h => f3 (upd_ne h (by decide))), (fun _ => rfl), (fun _ => rfl), (fun h => f6 (upd_ne h (by decide))), (fun h => f7 (upd_ne h (by decide))), (fun h => f8 (upd_ne h (by decide))), (fun h => f9 (upd_ne h (by decide))), (fun h => f12 (upd_ne h (by decide)))⟩, j, hj, ⟨((upd_no (by decide)).trans dd10), ((upd_no (by decide)).trans dd11)⟩, ⟨(fun hj0 => ?u0), (fun hj0 => ?u1), (fun hj0 => ?u2)⟩⟩
          case sg => exact hS.trans (g5.below.mono hS.size)
          case u0 =>
            have s := p0 hj0
            trivial
          case u1 =>
            have s := p1 hj0
            obtain ⟨g, ea, hx, hg⟩ := s
            exact ⟨g, ea, hx.up g5.below, hg⟩
          case u2 =>
            have s := p2 hj0
            obtain ⟨g, ea, hx, hg⟩ := s
            exact ⟨g, ea, hx.up g5.below, hg⟩
        · rintro d ⟨x26, x27, x28, x29, x30, x31, x32, x25, x33, x34, x5, x6⟩ w' hI hd hdp KQ hK
          dsimp only at hI
          obtain ⟨hS, ⟨f0, f1, f2, f3, f4, f5, f6, f7, f8, f9, f12⟩, j, hj, ⟨dd10, dd11⟩, ⟨p0, p1, p2⟩⟩ := hI
          obtain rfl := f3 (hdp 3 (by decide +kernel))
          obtain rfl := f5 (hdp 5 (by decide +kernel))
          have cl := HRD.out.2.2 w' hS
          have HF : Hid _ := And.intro hS (And.intro (And.intro f0 (And.intro f1 (And.intro f2 (And.intro f3 (And.intro f4 (And.intro f5 (And.intro f6 (And.intro f7 (And.intro f8 (And.intro f9 f12)))))))))) (And.intro hj (And.intro (And.intro dd10 dd11) (And.intro p0 (And.intro p1 p2)))))
          clear hS f0 f1 f2 f3 f4 f5 f6 f7 f8 f9 f12 hj dd10 dd11 p0 p1 p2 hdp hd
          refine Opn.mk ?_
          dsimp only
          go_simp
          obtain ⟨hS, ⟨f0, f1, f2, f3, f4, f5, f6, f7, f8, f9, f12⟩, hj, ⟨dd10, dd11⟩, ⟨p0, p1, p2⟩⟩ := HF.out
          exact hK.out (x26, x27, x28, .map (some m), x30, .agg #[.int .i64 k1, .int .i64 k2, .int .i64 k3], .tuple #[.agg #[.int .i64 c, (Value.slice pa np pc)], .bool ob], x25, x33, x34, x5, x6) _ ⟨hS, ⟨(fun h => f0 (upd_ne h (by decide))), (fun h => f1 (upd_ne h (by decide))), (fun h => f2 (upd_ne h (by decide))), (fun _ => rfl), (fun h => f4 (upd_ne h (by decide))), (fun _ => rfl), (fun _ => rfl), (fun h => f7 (upd_ne h (by decide))), (fun h => f8 (upd_ne h (by decide))), (fun h => f9 (upd_ne h (by decide))), (fun h => f12 (upd_ne h (by decide)))⟩, j, hj, ⟨((upd_no (by decide)).trans dd10), ((upd_no (by decide)).trans dd11)⟩, ⟨p0, p1, p2⟩⟩
        · rintro d ⟨x26, x27, x28, x29, x30, x31, x32, x25, x33, x34, x5, x6⟩ w' hI hd hdp KQ hK
          dsimp only at hI
          obtain ⟨hS, ⟨f0, f1, f2, f3, f4, f5, f6, f7, f8, f9, f12⟩, j, hj, ⟨dd10, dd11⟩, ⟨p0, p1, p2⟩⟩ := hI
          obtain rfl := f6 (hdp 6 (by decide +kernel))
          have HF : Hid _ := And.intro hS (And.intro (And.intro f0 (And.intro f1 (And.intro f2 (And.intro f3 (And.intro f4 (And.intro f5 (And.intro f6 (And.intro f7 (And.intro f8 (And.intro f9 f12)))))))))) (And.intro hj (And.intro (And.intro dd10 dd11) (And.intro p0 (And.intro p1 p2)))))
          clear hS f0 f1 f2 f3 f4 f5 f6 f7 f8 f9 f12 hj dd10 dd11 p0 p1 p2 hdp hd
          refine Opn.mk ?_
          dsimp only
          go_simp
          obtain ⟨hS, ⟨f0, f1, f2, f3, f4, f5, f6, f7, f8, f9, f12⟩, hj, ⟨dd10, dd11⟩, ⟨p0, p1, p2⟩⟩ := HF.out
          exact hK.out (x26, x27, x28, x29, x30, x31, .tuple #[.agg #[.int .i64 c, (Value.slice pa np pc)], .bool ob], .tuple #[.agg #[.int .i64 c, (Value.slice pa np pc)], .bool ob], x33, x34, x5, x6) _ ⟨hS, ⟨(fun h => f0 (upd_ne h (by decide))), (fun h => f1 (upd_ne h (by decide))), (fun h => f2 (upd_ne h (by decide))), (fun h => f3 (upd_ne h (by decide))), (fun h => f4 (upd_ne h (by decide))), (fun h => f5 (upd_ne h (by decide))), (fun _ => rfl), (fun _ => rfl), (fun h => f8 (upd_ne h (by decide))), (fun h => f9 (upd_ne h (by decide))), (fun h => f12 (upd_ne h (by decide)))⟩, j, hj, ⟨((upd_no (by decide)).trans dd10), ((upd_no (by decide)).trans dd11)⟩, ⟨p0, p1, p2⟩⟩
        · rintro d ⟨x26, x27, x28, x29, x30, x31, x32, x25, x33, x34, x5, x6⟩ w' hI hd hdp KQ hK
          dsimp only at hI
          obtain ⟨hS, ⟨f0, f1, f2, f3, f4, f5, f6, f7, f8, f9, f12⟩, j, hj, ⟨dd10, dd11⟩, ⟨p0, p1, p2⟩⟩ := hI
          obtain rfl := f7 (hdp 7 (by decide +kernel))
          have HF : Hid _ := And.intro hS (And.intro (And.intro f0 (And.intro f1 (And.intro f2 (And.intro f3 (And.intro f4 (And.intro f5 (And.intro f6 (And.intro f7 (And.intro f8 (And.intro f9 f12)))))))))) (And.intro hj (And.intro (And.intro dd10 dd11) (And.intro p0 (And.intro p1 p2)))))
          clear hS f0 f1 f2 f3 f4 f5 f6 f7 f8 f9 f12 hj dd10 dd11 p0 p1 p2 hdp hd
          refine Opn.mk ?_
          dsimp only
          go_simp
          obtain ⟨hS, ⟨f0, f1, f2, f3, f4, f5, f6, f7, f8, f9, f12⟩, hj, ⟨dd10, dd11⟩, ⟨p0, p1, p2⟩⟩ := HF.out
          exact hK.out (x26, x27, x28, x29, x30, x31, x32, .tuple #[.agg #[.int .i64 c, (Value.slice pa np pc)], .bool ob], .agg #[.int .i64 c, (Value.slice pa np pc)], x34, x5, x6) _ ⟨hS, ⟨(fun h => f0 (upd_ne h (by decide))), (fun h => f1 (upd_ne h (by decide))), (fun h => f2 (upd_ne h (by decide))), (fun h => f3 (upd_ne h (by decide))), (fun h => f4 (upd_ne h (by decide))), (fun h => f5 (upd_ne h (by decide))), (fun h => f6 (upd_ne h (by decide))), (fun _ => rfl), (fun _ => rfl), (fun h => f9 (upd_ne h (by decide))), (fun h => f12 (upd_ne h (by decide)))⟩, j, hj, ⟨((upd_no (by decide)).trans dd10), ((upd_no (by decide)).trans dd11)⟩, ⟨p0, p1, p2⟩⟩
        · rintro d ⟨x26, x27, x28, x29, x30, x31, x32, x25, x33, x34, x5, x6⟩ w' hI hd hdp KQ hK
          dsimp only at hI
          obtain ⟨hS, ⟨f0, f1, f2, f3, f4, f5, f6, f7, f8, f9, f12⟩, j, hj, ⟨dd10, dd11⟩, ⟨p0, p1, p2⟩⟩ := hI
          obtain rfl := f7 (hdp 7 (by decide +kernel))
          have HF : Hid _ := And.intro hS (And.intro (And.intro f0 (And.intro f1 (And.intro f2 (And.intro f3 (And.intro f4 (And.intro f5 (And.intro f6 (And.intro f7 (And.intro f8 (And.intro f9 f12)))))))))) (And.intro hj (And.intro (And.intro dd10 dd11) (And.intro p0 (And.intro p1 p2)))))
          clear hS f0 f1 f2 f3 f4 f5 f6 f7 f8 f9 f12 hj dd10 dd11 p0 p1 p2 hdp hd
          refine Opn.mk ?_
          dsimp only
          go_simp
          obtain ⟨hS, ⟨f0, f1, f2, f3, f4, f5, f6, f7, f8, f9, f12⟩, hj, ⟨dd10, dd11⟩, ⟨p0, p1, p2⟩⟩ := HF.out
          exact hK.out (x26, x27, x28, x29, x30, x31, x32, .tuple #[.agg #[.int .i64 c, (Value.slice pa np pc)], .bool ob], x33, .bool ob, x5, x6) _ ⟨hS, ⟨(fun h => f0 (upd_ne h (by decide))), (fun h => f1 (upd_ne h (by decide))), (fun h => f2 (upd_ne h (by decide))), (fun h => f3 (upd_ne h (by decide))), (fun h => f4 (upd_ne h (by decide))), (fun h => f5 (upd_ne h (by decide))), (fun h => f6 (upd_ne h (by decide))), (fun _ => rfl), (fun h => f8 (upd_ne h (by decide))), (fun _ => rfl), (fun h => f12 (upd_ne h (by decide)))⟩, j, hj, ⟨((upd_no (by decide)).trans dd10), ((upd_no (by decide)).trans dd11)⟩, ⟨p0, p1, p2⟩⟩
        · rintro d ⟨x26, x27, x28, x29, x30, x31, x32, x25, x33, x34, x5, x6⟩ w' hI hd hdp KQ hK
          dsimp only at hI
          obtain ⟨hS, ⟨f0, f1, f2, f3, f4, f5, f6, f7, f8, f9, f12⟩, j, hj, ⟨dd10, dd11⟩, ⟨p0, p1, p2⟩⟩ := hI
          obtain rfl := ph_zero dd10 hd
          have s := p0 rfl
          clear p0 p1 p2 hj
          have HG : Hid _ := And.intro hS s
          clear hS s
          have HF : Hid _ := And.intro (And.intro f0 (And.intro f1 (And.intro f2 (And.intro f3 (And.intro f4 (And.intro f5 (And.intro f6 (And.intro f7 (And.intro f8 (And.intro f9 f12)))))))))) (And.intro dd10 dd11)
          clear f0 f1 f2 f3 f4 f5 f6 f7 f8 f9 f12 dd10 dd11 hdp hd
          refine Opn.mk ?_
          dsimp only
          go_simp
          obtain ⟨hS, s⟩ := HG.out
          obtain ⟨⟨f0, f1, f2, f3, f4, f5, f6, f7, f8, f9, f12⟩, ⟨dd10, dd11⟩⟩ := HF.out
          refine hK.out (x26, x27, x28, x29, x30, x31, x32, x25, x33, x34, .pointer (some ⟨w'.heap.size, 0, none⟩), x6) _ ⟨?sg, ⟨(fun h => f0 (upd_ne h (by decide))), (fun h => f1 (upd_ne h (by decide))), (fun h => f2 (upd_ne h (by decide))), (fun h => f3 (upd_ne h (by decide))), (fun h => f4 (upd_ne h (by decide))), (fun h => f5 (upd_ne h (by decide))), (fun h => f6 (upd_ne h (by decide))), (fun h => f7 (upd_ne h (by decide))), (fun h => f8 (upd_ne h (by decide))), (fun h => f9 (upd_ne h (by decide))), (fun h => f12 (upd_ne h (by decide)))⟩, 1, by decide, ⟨(by simp [upd]), ((upd_no (by decide)).trans (dd11.trans (by decide)))⟩, ⟨(fun h => absurd h (by decide)), (fun _ => ?new), (fun h => absurd h (by decide))⟩⟩
          case sg => exact hS.trans (((Below.refl _ _).alloc (Nat.le_refl _) _).mono hS.size)
          case new =>
            exact ⟨_, rfl, BxA.new _ _ _, hS.size⟩
        · rintro d ⟨x26, x27, x28, x29, x30, x31, x32, x25, x33, x34, x5, x6⟩ w' hI hd hdp KQ hK
          dsimp only at hI
          obtain ⟨hS, ⟨f0, f1, f2, f3, f4, f5, f6, f7, f8, f9, f12⟩, j, hj, ⟨dd10, dd11⟩, ⟨p0, p1, p2⟩⟩ := hI
          obtain rfl := f8 (hdp 8 (by decide +kernel))
          obtain rfl := ph_eq (k := 0) dd11 hd dd10 (hdp 10 (by decide +kernel))
          have s := p1 rfl
          clear p0 p1 p2 hj
          obtain ⟨g, ea, hx, hg⟩ := s
          subst ea
          have cg0 := hx.cell 0 _ rfl
          have cg1 := hx.cell 1 _ rfl
          have cf0 := hx.free 0
          have cf1 := hx.free 1
          have HG : Hid _ := And.intro hS (And.intro hx hg)
          clear hS hx hg
          have HF : Hid _ := And.intro (And.intro f0 (And.intro f1 (And.intro f2 (And.intro f3 (And.intro f4 (And.intro f5 (And.intro f6 (And.intro f7 (And.intro f8 (And.intro f9 f12)))))))))) (And.intro dd10 dd11)
          clear f0 f1 f2 f3 f4 f5 f6 f7 f8 f9 f12 dd10 dd11 hdp hd
          refine Opn.mk ?_
          dsimp only
          go_simp
          obtain ⟨hS, hx, hg⟩ := HG.out
          obtain ⟨⟨f0, f1, f2, f3, f4, f5, f6, f7, f8, f9, f12⟩, ⟨dd10, dd11⟩⟩ := HF.out
          refine hK.out (x26, x27, x28, x29, x30, x31, x32, x25, .agg #[.int .i64 c, (Value.slice pa np pc)], x34, .pointer (some ⟨g, 0, none⟩), x6) _ ⟨?sg, ⟨(fun h => f0 (upd_ne h (by decide))), (fun h => f1 (upd_ne h (by decide))), (fun h => f2 (upd_ne h (by decide))), (fun h => f3 (upd_ne h (by decide))), (fun h => f4 (upd_ne h (by decide))), (fun h => f5 (upd_ne h (by decide))), (fun h => f6 (upd_ne h (by decide))), (fun h => f7 (upd_ne h (by decide))), (fun _ => rfl), (fun h => f9 (upd_ne h (by decide))), (fun h => f12 (upd_ne h (by decide)))⟩, 2, by decide, ⟨((upd_no (by decide)).trans (dd10.trans (by decide))), (by simp [upd])⟩, ⟨(fun h => absurd h (by decide)), (fun h => absurd h (by decide)), (fun _ => ?new)⟩⟩
          case sg => exact below_setG (below_setG hS hg) hg
          case new =>
            exact ⟨_, rfl, BxA.set (BxA.set hx 0 _) 1 _, hg⟩
        · rintro d ⟨x26, x27, x28, x29, x30, x31, x32, x25, x33, x34, x5, x6⟩ w' hI hd hdp KQ hK
          dsimp only at hI
          obtain ⟨hS, ⟨f0, f1, f2, f3, f4, f5, f6, f7, f8, f9, f12⟩, j, hj, ⟨dd10, dd11⟩, ⟨p0, p1, p2⟩⟩ := hI
          obtain rfl := f9 (hdp 9 (by decide +kernel))
          have HF : Hid _ := And.intro hS (And.intro (And.intro f0 (And.intro f1 (And.intro f2 (And.intro f3 (And.intro f4 (And.intro f5 (And.intro f6 (And.intro f7 (And.intro f8 (And.intro f9 f12)))))))))) (And.intro hj (And.intro (And.intro dd10 dd11) (And.intro p0 (And.intro p1 p2)))))
          clear hS f0 f1 f2 f3 f4 f5 f6 f7 f8 f9 f12 hj dd10 dd11 p0 p1 p2 hdp hd
          refine Opn.mk ?_
          dsimp only
          go_simp
          obtain ⟨hS, ⟨f0, f1, f2, f3, f4, f5, f6, f7, f8, f9, f12⟩, hj, ⟨dd10, dd11⟩, ⟨p0, p1, p2⟩⟩ := HF.out
          exact hK.out (x26, x27, x28, x29, x30, x31, x32, x25, x33, .bool ob, x5, .bool ob) _ ⟨hS, ⟨(fun h => f0 (upd_ne h (by decide))), (fun h => f1 (upd_ne h (by decide))), (fun h => f2 (upd_ne h (by decide))), (fun h => f3 (upd_ne h (by decide))), (fun h => f4 (upd_ne h (by decide))), (fun h => f5 (upd_ne h (by decide))), (fun h => f6 (upd_ne h (by decide))), (fun h => f7 (upd_ne h (by decide))), (fun h => f8 (upd_ne h (by decide))), (fun _ => rfl), (fun _ => rfl)⟩, j, hj, ⟨((upd_no (by decide)).trans dd10), ((upd_no (by decide)).trans dd11)⟩, ⟨p0, p1, p2⟩⟩
      case he1002 =>
        rintro d ⟨x26, x27, x28, x29, x30, x31, x32, x25, x33, x34, x5, x6⟩ w' hall hI
        dsimp only at hI
        obtain ⟨hS, ⟨f0, f1, f2, f3, f4, f5, f6, f7, f8, f9, f12⟩, j, hj, ⟨dd10, dd11⟩, ⟨p0, p1, p2⟩⟩ := hI
        obtain rfl := ph_end (k := 1) hj dd11 (hall 11 (by decide))
        have s := p2 rfl

        obtain rfl := f12 (hall 12 (by decide))
        clear hall hj f0 f1 f2 f3 f4 f5 f6 f7 f8 f9 f12 dd10 dd11 p0 p1 p2
        obtain ⟨gb, ea, hx, hg⟩ := s
        subst ea
        obtain ⟨cs0, cs1, cs2, cs3, cs4⟩ := HRD.out.2.1 w' hS
        have kB := bs_own w' (Value.slice pa np pc) ps gp (own_below HOW.out hS) HPL.out HUP.out
        have cg1 := hx.cell 1 _ rfl
        obtain ⟨at', hat⟩ : ∃ a, a = ps.countP (· < gp) := ⟨_, rfl⟩
        obtain ⟨tw, htw⟩ : ∃ a, a = ps.contains gp := ⟨_, rfl⟩
        rw [← hat, ← htw] at kB
        have HAT : Hid (at' ≤ ps.length ∧ at' = ps.countP (· < gp)) := ⟨by rw [hat]; exact List.countP_le_length, hat⟩
        have HTW := hide htw
        have HX : Hid (BxA w' gb 67 #[.int .i64 c, (Value.slice pa np pc)] ∧ W.heap.size ≤ gb) := ⟨hx, hg⟩
        have HS5 : Hid (Below W.heap.size W w') := hS
        clear hS hx hg hat htw hSig0 hS00 cs0 cs1 cs2
        try dsimp only
        go_wp2_with fail
        refine kB.mono ?_
        rintro ev V ⟨rfl, g6⟩
        go_upto_region 7 with fail
        clear kB cs3 cs4 cg1
        have HBV : Hid (Below W.heap.size W V) := HS5.out.trans (g6.below.mono HS5.out.size)
        have HT1 : Hid (Tw w V t F s F) := HT0.out.grow HBV.out
        have HZV : Hid (TlZ V t F s (some m) Z) := HZW.out.below HBV.out
        have HOV : Hid (OwI V (Value.slice pa np pc) ps) := own_below HOW.out HBV.out
        have HGV : Hid (BxA V gb 67 #[.int .i64 c, (Value.slice pa np pc)]) := HX.out.1.up g6.below
        have HSV : Hid (BxA V b3 32 #[.int .i64 k1, .int .i64 k2, .int .i64 k3, .int .i64 gp, .int .i64 gc]) := HBW.out.up HBV.out
        have ct0 := HGV.out.cell 0 _ rfl
        have cs4 := HSV.out.cell 4 _ rfl
        clear g6
        cases tw
        case true =>
          have HE : Hid (AdP w t F (addF s ((k1, k2, k3), gp, gc)) (.returned (.int .i64 121)) V) := by
            apply hide
            rcases HSY.out with ⟨ho, _, hf⟩ | ⟨ho, hp, hf⟩
            · rw [addF_twice HQ.out.symm hf HTW.out.symm]
              exact ⟨rfl, _, HT1.out⟩
            · have := HTW.out
              rw [hp] at this
              simp at this
          go_wp2_with fail
          go_ret
          exact HE.out
        case false =>
          by_cases hform : ob = true ∧ c ≠ gc
          · have HE : Hid (AdP w t F (addF s ((k1, k2, k3), gp, gc)) (.returned (.int .i64 12)) V) := by
              apply hide
              rcases HSY.out with ⟨ho, _, hf⟩ | ⟨ho, hp, hf⟩
              · rw [addF_form HQ.out.symm hf HTW.out.symm hform.2]
                exact ⟨rfl, _, HT1.out⟩
              · rw [hform.1] at ho; cases ho
            have hb1 : (c != gc) = true := by simpa using hform.2
            obtain ⟨rfl, hne⟩ := hform
            go_wp2_with fail
            go_ret
            exact HE.out
          · have HGC : Hid (ob = true → c = gc) := fun q => Classical.byContradiction fun q2 => hform ⟨q, q2⟩
            obtain ⟨D, hDo, hDm⟩ : ∃ D, V.ownsMap Try.prog 55 sel m Z.length D ∧ MD D Z := by
              rcases HZV.out.m with ⟨h1, _⟩ | ⟨m', D, h1, h2, h3⟩
              · cases h1
              · cases h1; exact ⟨D, h2, h3⟩
            have HMV := hide hDo
            have HMD := hide hDm
            have HNM : Hid (some m ≠ (Value.slice pa np pc).ownBlock) := map_away HOV.out hDo
            have HQD : Hid ((∀ w', Fr (fun i => (Value.slice pa np pc).ownBlock = some i ∨ i = m) V w' → w'.cell? ⟨t, 0, none⟩ = some (.map (some m))) ∧ (∀ w', Fr (fun i => (Value.slice pa np pc).ownBlock = some i ∨ i = m) V w' → w'.cell? ⟨b3, 0, none⟩ = some (.int .i64 k1) ∧ w'.cell? ⟨b3, 1, none⟩ = some (.int .i64 k2) ∧ w'.cell? ⟨b3, 2, none⟩ = some (.int .i64 k3) ∧ w'.cell? ⟨b3, 3, none⟩ = some (.int .i64 gp) ∧ w'.cell? ⟨b3, 4, none⟩ = some (.int .i64 gc)) ∧ (∀ w', Fr (fun i => (Value.slice pa np pc).ownBlock = some i ∨ i = m) V w' → w'.cell? ⟨gb, 0, none⟩ = some (.int .i64 c) ∧ w'.cell? ⟨gb, 1, none⟩ = some (Value.slice pa np pc))) := by
              refine ⟨fun w' hb => (HZV.out.b.fr hb (bxa_away HZV.out.b (by decide) HOV.out HMV.out)).cell 0 _ rfl, fun w' hb => ?_, fun w' hb => ?_⟩
              · have hx := HSV.out.fr hb (bxa_away HSV.out (by decide) HOV.out HMV.out)
                exact ⟨hx.cell 0 _ rfl, hx.cell 1 _ rfl, hx.cell 2 _ rfl, hx.cell 3 _ rfl, hx.cell 4 _ rfl⟩
              · have hx := HGV.out.fr hb (bxa_away HGV.out (by decide) HOV.out HMV.out)
                exact ⟨hx.cell 0 _ rfl, hx.cell 1 _ rfl⟩
            have HEND : Hid (∀ (v' : Value) (w9 : World), Tw V w9 t F (if ob then updE s (k1, k2, k3) (insP ps gp) else s ++ [((k1, k2, k3), gc, insP ps gp)]) (fun i => F i ∨ v'.ownBlock = some i) → AdP w t F (addF s ((k1, k2, k3), gp, gc)) (.returned (.int .i64 0)) w9) := by
              intro v' w9 q
              have q2 := HT1.out.trans q
              rcases HSY.out with ⟨ho, _, hf⟩ | ⟨ho, hp, hf⟩
              · rw [addF_put HQ.out.symm hf HTW.out.symm (HGC.out ho)]
                rw [ho, if_pos rfl] at q2
                exact ⟨rfl, _, q2⟩
              · rw [addF_new HQ.out.symm hf]
                rw [ho, if_neg (by simp), hp] at q2
                exact ⟨rfl, _, q2⟩
            have hSig0 : Fr (fun i => (Value.slice pa np pc).ownBlock = some i ∨ i = m) V V.drew := Fr.of_below (Below.refl _ _).drew
            have hS00 : V.grownBy V.drew (Value.slice pa np pc).ownBlock ∧ OwI V.drew (Value.slice pa np pc) ps := ⟨grown_of_below (Below.refl _ _).drew _, own_below HOV.out (Below.refl _ _).drew⟩
            clear hDo hDm
            cases ob
            case false =>
              clear hform
              go_upto_region 11 with fail
              clear ct0 cs4
              try dsimp only
              refine wp_region_invF (β := Value × Value × Value × Value × Value × Value × Value × Value × Value × Value × Value × Value × Value × Value × Value × Value) (fun a0 xq => ((((((((((((((((a0.put (some 54) (xq.1)).put (some 55) (xq.2.1)).put (some 56) (xq.2.2.1)).put (some 57) (xq.2.2.2.1)).put (some 58) (xq.2.2.2.2.1)).put (some 59) (xq.2.2.2.2.2.1)).put (some 60) (xq.2.2.2.2.2.2.1)).put (some 61) (xq.2.2.2.2.2.2.2.1)).put (some 62) (xq.2.2.2.2.2.2.2.2.1)).put (some 63) (xq.2.2.2.2.2.2.2.2.2.1)).put (some 64) (xq.2.2.2.2.2.2.2.2.2.2.1)).put (some 65) (xq.2.2.2.2.2.2.2.2.2.2.2.1)).put (some 66) (xq.2.2.2.2.2.2.2.2.2.2.2.2.1)).put (some 67) (xq.2.2.2.2.2.2.2.2.2.2.2.2.2.1)).put (some 68) (xq.2.2.2.2.2.2.2.2.2.2.2.2.2.2.1)).put (some 69) (xq.2.2.2.2.2.2.2.2.2.2.2.2.2.2.2))) ?fr1000 (fun xq d w' => (Fr (fun i => (Value.slice pa np pc).ownBlock = some i ∨ i = m) V w') ∧ ((d 0 = true → (xq.1) = .pointer (some ⟨t, 0, none⟩)) ∧ (d 1 = true → (xq.2.1) = .pointer (some ⟨t, 0, none⟩)) ∧ (d 2 = true → (xq.2.2.1) = .pointer (some ⟨t, 0, none⟩)) ∧ (d 3 = true → (xq.2.2.2.1) = .map (some m)) ∧ (d 4 = true → (xq.2.2.2.2.1) = .agg #[.int .i64 k1, .int .i64 k2, .int .i64 k3, .int .i64 gp, .int .i64 gc]) ∧ (d 5 = true → (xq.2.2.2.2.2.1) = .agg #[.int .i64 k1, .int .i64 k2, .int .i64 k3]) ∧ (d 6 = true → (xq.2.2.2.2.2.2.1) = .pointer (some ⟨b3, 4, none⟩)) ∧ (d 7 = true → (xq.2.2.2.2.2.2.2.1) = .int .i64 gc) ∧ (d 8 = true → (xq.2.2.2.2.2.2.2.2.1) = .pointer (some ⟨gb, 1, none⟩)) ∧ (d 9 = true → (xq.2.2.2.2.2.2.2.2.2.1) = (Value.slice pa np pc)) ∧ (d 10 = true → (xq.2.2.2.2.2.2.2.2.2.2.1) = .int .i64 (at' : Nat)) ∧ (d 11 = true → (xq.2.2.2.2.2.2.2.2.2.2.2.1) = .pointer (some ⟨b3, 3, none⟩)) ∧ (d 12 = true → (xq.2.2.2.2.2.2.2.2.2.2.2.2.1) = .int .i64 gp)) ∧ ∃ j : Nat, j ≤ 4 ∧ (d 13 = decide (0 < j) ∧ d 14 = decide (1 < j) ∧ d 15 = decide (2 < j) ∧ d 16 = decide (3 < j)) ∧ ((j = 0 → V.grownBy w' (Value.slice pa np pc).ownBlock ∧ OwI w' (Value.slice pa np pc) ps) ∧ (j = 1 → V.grownBy w' (Value.slice pa np pc).ownBlock ∧ OwI w' (Value.slice pa np pc) ps ∧ ∃ g, (xq.2.2.2.2.2.2.2.2.2.2.2.2.2.1) = .slice (some ⟨g, 0, none⟩) 1 1 ∧ BxA w' g 3 #[.int .i64 gp] ∧ V.heap.size ≤ g) ∧ (j = 2 → ∃ va vn vc, (xq.2.2.2.2.2.2.2.2.2.2.2.2.2.2.1) = .slice va vn vc ∧ V.grownBy w' (Value.slice pa np pc).ownBlock ∧ (∀ r, (Value.slice va vn vc).ownBlock = some r → (Value.slice pa np pc).ownBlock = some r ∨ V.heap.size ≤ r) ∧ OwI w' (Value.slice va vn vc) (insP ps gp)) ∧ (j = 3 → ∃ va vn vc, (xq.2.2.2.2.2.2.2.2.2.2.2.2.2.2.2) = .agg #[.int .i64 gc, .slice va vn vc] ∧ V.grownBy w' (Value.slice pa np pc).ownBlock ∧ (∀ r, (Value.slice va vn vc).ownBlock = some r → (Value.slice pa np pc).ownBlock = some r ∨ V.heap.size ≤ r) ∧ OwI w' (Value.slice va vn vc) (insP ps gp)) ∧ (j = 4 → ∃ v' : Value, Tw V w' t F (if false then updE s (k1, k2, k3) (insP ps gp) else s ++ [((k1, k2, k3), gc, insP ps gp)]) (fun i => F i ∨ v'.ownBlock = some i)))) ?lay1000 mixed (by kernel_rfl) ?h01000 ?hs1000 ?he1000
              case lay1000 =>
                intro xq
                simp only [Act.put, List.setIfInBounds_toArray, List.set_cons_zero, List.set_cons_succ]
                rfl
              case h01000 =>
                refine ⟨(undef, undef, undef, undef, undef, undef, undef, undef, undef, undef, undef, undef, undef, undef, undef, undef), rfl, ?sig1000, ⟨(fun h => by cases h), (fun h => by cases h), (fun h => by cases h), (fun h => by cases h), (fun h => by cases h), (fun h => by cases h), (fun h => by cases h), (fun h => by cases h), (fun h => by cases h), (fun h => by cases h), (fun h => by cases h), (fun h => by cases h), (fun h => by cases h)⟩, 0, Nat.zero_le _, ⟨rfl, rfl, rfl, rfl⟩, ?S01000, (fun h => by cases h), (fun h => by cases h), (fun h => by cases h), (fun h => by cases h)⟩
                case sig1000 => exact hSig0
                case S01000 => exact fun _ => hS00
              case hs1000 =>
                refine ⟨?_, ?_, ?_, ?_, ?_, ?_, ?_, ?_, ?_, ?_, ?_, ?_, ?_, ?_, ?_, ?_, ?_, trivial⟩
                · rintro d ⟨x54, x55, x56, x57, x58, x59, x60, x61, x62, x63, x64, x65, x66, x67, x68, x69⟩ w' hI hd hdp KQ hK
                  dsimp only at hI
                  obtain ⟨hS, ⟨f0, f1, f2, f3, f4, f5, f6, f7, f8, f9, f10, f11, f12⟩, j, hj, ⟨dd13, dd14, dd15, dd16⟩, ⟨p0, p1, p2, p3, p4⟩⟩ := hI
                  have HF : Hid _ := And.intro hS (And.intro (And.intro f0 (And.intro f1 (And.intro f2 (And.intro f3 (And.intro f4 (And.intro f5 (And.intro f6 (And.intro f7 (And.intro f8 (And.intro f9 (And.intro f10 (And.intro f11 f12)))))))))))) (And.intro hj (And.intro (And.intro dd13 (And.intro dd14 (And.intro dd15 dd16))) (And.intro p0 (And.intro p1 (And.intro p2 (And.intro p3 p4)))))))
                  clear hS f0 f1 f2 f3 f4 f5 f6 f7 f8 f9 f10 f11 f12 hj dd13 dd14 dd15 dd16 p0 p1 p2 p3 p4 hdp hd
                  refine Opn.mk ?_
                  dsimp only
                  go_simp
                  obtain ⟨hS, ⟨f0, f1, f2, f3, f4, f5, f6, f7, f8, f9, f10, f11, f12⟩, hj, ⟨dd13, dd14, dd15, dd16⟩, ⟨p0, p1, p2, p3, p4⟩⟩ := HF.out
                  exact hK.out (.pointer (some ⟨t, 0, none⟩), x55, x56, x57, x58, x59, x60, x61, x62, x63, x64, x65, x66, x67, x68, x69) _ ⟨hS, ⟨(fun _ => rfl), (fun h => f1 (upd_ne h (by decide))), (fun h => f2 (upd_ne h (by decide))), (fun h => f3 (upd_ne h (by decide))), (fun h => f4 (upd_ne h (by decide))), (fun h => f5 (upd_ne h (by decide))), (fun h => f6 (upd_ne h (by decide))), (fun h => f7 (upd_ne h (by decide))), (fun h => f8 (upd_ne h (by decide))), (fun h => f9 (upd_ne h (by decide))), (fun h => f10 (upd_ne h (by decide))), (fun h => f11 (upd_ne h (by decide))), (fun h => f12 (upd_ne h (by decide)))⟩, j, hj, ⟨((upd_no (by decide)).trans dd13), ((upd_no (by decide)).trans dd14), ((upd_no (by decide)).trans dd15), ((upd_no (by decide)).trans dd16)⟩, ⟨p0, p1, p2, p3, p4⟩⟩
                · rintro d ⟨x54, x55, x56, x57, x58, x59, x60, x61, x62, x63, x64, x65, x66, x67, x68, x69⟩ w' hI hd hdp KQ hK
                  dsimp only at hI
                  obtain ⟨hS, ⟨f0, f1, f2, f3, f4, f5, f6, f7, f8, f9, f10, f11, f12⟩, j, hj, ⟨dd13, dd14, dd15, dd16⟩, ⟨p0, p1, p2, p3, p4⟩⟩ := hI
                  obtain rfl := f0 (hdp 0 (by decide +kernel))
                  have HF : Hid _ := And.intro hS (And.intro (And.intro f0 (And.intro f1 (And.intro f2 (And.intro f3 (And.intro f4 (And.intro f5 (And.intro f6 (And.intro f7 (And.intro f8 (And.intro f9 (And.intro f10 (And.intro f11 f12)))))))))))) (And.intro hj (And.intro (And.intro dd13 (And.intro dd14 (And.intro dd15 dd16))) (And.intro p0 (And.intro p1 (And.intro p2 (And.intro p3 p4)))))))
                  clear hS f0 f1 f2 f3 f4 f5 f6 f7 f8 f9 f10 f11 f12 hj dd13 dd14 dd15 dd16 p0 p1 p2 p3 p4 hdp hd
                  refine Opn.mk ?_
                  dsimp only
                  go_simp
                  obtain ⟨hS, ⟨f0, f1, f2, f3, f4, f5, f6, f7, f8, f9, f10, f11, f12⟩, hj, ⟨dd13, dd14, dd15, dd16⟩, ⟨p0, p1, p2, p3, p4⟩⟩ := HF.out
                  exact hK.out (.pointer (some ⟨t, 0, none⟩), .pointer (some ⟨t, 0, none⟩), x56, x57, x58, x59, x60, x61, x62, x63, x64, x65, x66, x67, x68, x69) _ ⟨hS, ⟨(fun _ => rfl), (fun _ => rfl), (fun h => f2 (upd_ne h (by decide))), (fun h => f3 (upd_ne h (by decide))), (fun h => f4 (upd_ne h (by decide))), (fun h => f5 (upd_ne h (by decide))), (fun h => f6 (upd_ne h (by decide))), (fun h => f7 (upd_ne h (by decide))), (fun h => f8 (upd_ne h (by decide))), (fun h => f9 (upd_ne h (by decide))), (fun h => f10 (upd_ne h (by decide))), (fun h => f11 (upd_ne h (by decide))), (fun h => f12 (upd_ne h (by decide)))⟩, j, hj, ⟨((upd_no (by decide)).trans dd13), ((upd_no (by decide)).trans dd14), ((upd_no (by decide)).trans dd15), ((upd_no (by decide)).trans dd16)⟩, ⟨p0, p1, p2, p3, p4⟩⟩
                · rintro d ⟨x54, x55, x56, x57, x58, x59, x60, x61, x62, x63, x64, x65, x66, x67, x68, x69⟩ w' hI hd hdp KQ hK
                  dsimp only at hI
                  obtain ⟨hS, ⟨f0, f1, f2, f3, f4, f5, f6, f7, f8, f9, f10, f11, f12⟩, j, hj, ⟨dd13, dd14, dd15, dd16⟩, ⟨p0, p1, p2, p3, p4⟩⟩ := hI
                  obtain rfl := f1 (hdp 1 (by decide +kernel))
                  have HF : Hid _ := And.intro hS (And.intro (And.intro f0 (And.intro f1 (And.intro f2 (And.intro f3 (And.intro f4 (And.intro f5 (And.intro f6 (And.intro f7 (And.intro f8 (And.intro f9 (And.intro f10 (And.intro f11 f12)))))))))))) (And.intro hj (And.intro (And.intro dd13 (And.intro dd14 (And.intro dd15 dd16))) (And.intro p0 (And.intro p1 (And.intro p2 (And.intro p3 p4)))))))
                  clear hS f0 f1 f2 f3 f4 f5 f6 f7 f8 f9 f10 f11 f12 hj dd13 dd14 dd15 dd16 p0 p1 p2 p3 p4 hdp hd
                  refine Opn.mk ?_
                  dsimp only
                  go_simp
                  obtain ⟨hS, ⟨f0, f1, f2, f3, f4, f5, f6, f7, f8, f9, f10, f11, f12⟩, hj, ⟨dd13, dd14, dd15, dd16⟩, ⟨p0, p1, p2, p3, p4⟩⟩ := HF.out
                  exact hK.out (x54, .pointer (some ⟨t, 0, none⟩), .pointer (some ⟨t, 0, none⟩), x57, x58, x59, x60, x61, x62, x63, x64, x65, x66, x67, x68, x69) _ ⟨hS, ⟨(fun h => f0 (upd_ne h (by decide))), (fun _ => rfl), (fun _ => rfl), (fun h => f3 (upd_ne h (by decide))), (fun h => f4 (upd_ne h (by decide))), (fun h => f5 (upd_ne h (by decide))), (fun h => f6 (upd_ne h (by decide))), (fun h => f7 (upd_ne h (by decide))), (fun h => f8 (upd_ne h (by decide))), (fun h => f9 (upd_ne h (by decide))), (fun h => f10 (upd_ne h (by decide))), (fun h => f11 (upd_ne h (by decide))), (fun h => f12 (upd_ne h (by decide)))⟩, j, hj, ⟨((upd_no (by decide)).trans dd13), ((upd_no (by decide)).trans dd14), ((upd_no (by decide)).trans dd15), ((upd_no (by decide)).trans dd16)⟩, ⟨p0, p1, p2, p3, p4⟩⟩
                · rintro d ⟨x54, x55, x56, x57, x58, x59, x60, x61, x62, x63, x64, x65, x66, x67, x68, x69⟩ w' hI hd hdp KQ hK
                  dsimp only at hI
                  obtain ⟨hS, ⟨f0, f1, f2, f3, f4, f5, f6, f7, f8, f9, f10, f11, f12⟩, j, hj, ⟨dd13, dd14, dd15, dd16⟩, ⟨p0, p1, p2, p3, p4⟩⟩ := hI
                  obtain rfl := f2 (hdp 2 (by decide +kernel))
                  have cc := HQD.out.1 w' hS
                  have HF : Hid _ := And.intro hS (And.intro (And.intro f0 (And.intro f1 (And.intro f2 (And.intro f3 (And.intro f4 (And.intro f5 (And.intro f6 (And.intro f7 (And.intro f8 (And.intro f9 (And.intro f10 (And.intro f11 f12)))))))))))) (And.intro hj (And.intro (And.intro dd13 (And.intro dd14 (And.intro dd15 dd16))) (And.intro p0 (And.intro p1 (And.intro p2 (And.intro p3 p4)))))))
                  clear hS f0 f1 f2 f3 f4 f5 f6 f7 f8 f9 f10 f11 f12 hj dd13 dd14 dd15 dd16 p0 p1 p2 p3 p4 hdp hd
                  refine Opn.mk ?_
                  dsimp only
                  go_simp
                  obtain ⟨hS, ⟨f0, f1, f2, f3, f4, f5, f6, f7, f8, f9, f10, f11, f12⟩, hj, ⟨dd13, dd14, dd15, dd16⟩, ⟨p0, p1, p2, p3, p4⟩⟩ := HF.out
                  exact hK.out (x54, x55, .pointer (some ⟨t, 0, none⟩), .map (some m), x58, x59, x60, x61, x62, x63, x64, x65, x66, x67, x68, x69) _ ⟨hS, ⟨(fun h => f0 (upd_ne h (by decide))), (fun h => f1 (upd_ne h (by decide))), (fun _ => rfl), (fun _ => rfl), (fun h => f4 (upd_ne h (by decide))), (fun h => f5 (upd_ne h (by decide))), (fun h => f6 (upd_ne h (by decide))), (fun h => f7 (upd_ne h (by decide))), (fun h => f8 (upd_ne h (by decide))), (fun h => f9 (upd_ne h (by decide))), (fun h => f10 (upd_ne h (by decide))), (fun h => f11 (upd_ne h (by decide))), (fun h => f12 (upd_ne h (by decide)))⟩, j, hj, ⟨((upd_no (by decide)).trans dd13), ((upd_no (by decide)).trans dd14), ((upd_no (by decide)).trans dd15), ((upd_no (by decide)).trans dd16)⟩, ⟨p0, p1, p2, p3, p4⟩⟩
                · rintro d ⟨x54, x55, x56, x57, x58, x59, x60, x61, x62, x63, x64, x65, x66, x67, x68, x69⟩ w' hI hd hdp KQ hK
                  dsimp only at hI
                  obtain ⟨hS, ⟨f0, f1, f2, f3, f4, f5, f6, f7, f8, f9, f10, f11, f12⟩, j, hj, ⟨dd13, dd14, dd15, dd16⟩, ⟨p0, p1, p2, p3, p4⟩⟩ := hI
                  obtain ⟨cs0, cs1, cs2, cs3, cs4⟩ := HQD.out.2.1 w' hS
                  have HF : Hid _ := And.intro hS (And.intro (And.intro f0 (And.intro f1 (And.intro f2 (And.intro f3 (And.intro f4 (And.intro f5 (And.intro f6 (And.intro f7 (And.intro f8 (And.intro f9 (And.intro f10 (And.intro f11 f12)))))))))))) (And.intro hj (And.intro (And.intro dd13 (And.intro dd14 (And.intro dd15 dd16))) (And.intro p0 (And.intro p1 (And.intro p2 (And.intro p3 p4)))))))
                  clear hS f0 f1 f2 f3 f4 f5 f6 f7 f8 f9 f10 f11 f12 hj dd13 dd14 dd15 dd16 p0 p1 p2 p3 p4 hdp hd
                  refine Opn.mk ?_
                  dsimp only
                  go_simp
                  obtain ⟨hS, ⟨f0, f1, f2, f3, f4, f5, f6, f7, f8, f9, f10, f11, f12⟩, hj, ⟨dd13, dd14, dd15, dd16⟩, ⟨p0, p1, p2, p3, p4⟩⟩ := HF.out
                  exact hK.out (x54, x55, x56, x57, .agg #[.int .i64 k1, .int .i64 k2, .int .i64 k3, .int .i64 gp, .int .i64 gc], x59, x60, x61, x62, x63, x64, x65, x66, x67, x68, x69) _ ⟨hS, ⟨(fun h => f0 (upd_ne h (by decide))), (fun h => f1 (upd_ne h (by decide))), (fun h => f2 (upd_ne h (by decide))), (fun h => f3 (upd_ne h (by decide))), (fun _ => rfl), (fun h => f5 (upd_ne h (by decide))), (fun h => f6 (upd_ne h (by decide))), (fun h => f7 (upd_ne h (by decide))), (fun h => f8 (upd_ne h (by decide))), (fun h => f9 (upd_ne h (by decide))), (fun h => f10 (upd_ne h (by decide))), (fun h => f11 (upd_ne h (by decide))), (fun h => f12 (upd_ne h (by decide)))⟩, j, hj, ⟨((upd_no (by decide)).trans dd13), ((upd_no (by decide)).trans dd14), ((upd_no (by decide)).trans dd15), ((upd_no (by decide)).trans dd16)⟩, ⟨p0, p1, p2, p3, p4⟩⟩
                · rintro d ⟨x54, x55, x56, x57, x58, x59, x60, x61, x62, x63, x64, x65, x66, x67, x68, x69⟩ w' hI hd hdp KQ hK
                  dsimp only at hI
                  obtain ⟨hS, ⟨f0, f1, f2, f3, f4, f5, f6, f7, f8, f9, f10, f11, f12⟩, j, hj, ⟨dd13, dd14, dd15, dd16⟩, ⟨p0, p1, p2, p3, p4⟩⟩ := hI
                  obtain rfl := f4 (hdp 4 (by decide +kernel))
                  have kk := keyOf_any w' k1 k2 k3 gp gc
                  unfold kv at kk
                  simp only at kk
                  have HF : Hid _ := And.intro hS (And.intro (And.intro f0 (And.intro f1 (And.intro f2 (And.intro f3 (And.intro f4 (And.intro f5 (And.intro f6 (And.intro f7 (And.intro f8 (And.intro f9 (And.intro f10 (And.intro f11 f12)))))))))))) (And.intro hj (And.intro (And.intro dd13 (And.intro dd14 (And.intro dd15 dd16))) (And.intro p0 (And.intro p1 (And.intro p2 (And.intro p3 p4)))))))
                  clear hS f0 f1 f2 f3 f4 f5 f6 f7 f8 f9 f10 f11 f12 hj dd13 dd14 dd15 dd16 p0 p1 p2 p3 p4 hdp hd
                  refine Opn.mk ?_
                  dsimp only
                  go_simp
                  go_wp2_with (first | (go_at_call 30; with_reducible refine kk.mono ?_; rintro e5 w5 ⟨rfl, g5⟩))
                  obtain ⟨hS, ⟨f0, f1, f2, f3, f4, f5, f6, f7, f8, f9, f10, f11, f12⟩, hj, ⟨dd13, dd14, dd15, dd16⟩, ⟨p0, p1, p2, p3, p4⟩⟩ := HF.out
                  refine hK.out (x54, x55, x56, x57, .agg #[.int .i64 k1, .int .i64 k2, .int .i64 k3, .int .i64 gp, .int .i64 gc], .agg #[.int .i64 k1, .int .i64 k2, .int .i64 k3], x60, x61, x62, x63, x64, x65, x66, x67, x68, x69) _ ⟨?sg, ⟨(fun h => f0 (upd_ne h (by decide))), (fun h => f1 (upd_ne h (by decide))), (fun h => f2 (upd_ne h (by decide))), (fun h => f3 (upd_ne h (by decide))), (fun _ => rfl), (fun _ => rfl), (fun h => f6 (upd_ne h (by decide))), (fun h => f7 (upd_ne h (by decide))), (fun h => f8 (upd_ne h (by decide))), (fun h => f9 (upd_ne h (by decide))), (fun h => f10 (upd_ne h (by decide))), (fun h => f11 (upd_ne h (by decide))), (fun h => f12 (upd_ne h (by decide)))⟩, j, hj, ⟨((upd_no (by decide)).trans dd13), ((upd_no (by decide)).trans dd14), ((upd_no (by decide)).trans dd15), ((upd_no (by decide)).trans dd16)⟩, ⟨(fun hj0 => ?u0), (fun hj0 => ?u1), (fun hj0 => ?u2), (fun hj0 => ?u3), (fun hj0 => ?u4)⟩⟩
                  case sg => exact hS.trans (Fr.of_below g5.below) fun _ _ h => h
                  case u0 =>
                    have s := p0 hj0
                    exact ⟨grown_trans s.1 (grown_of_below g5.below _), own_below s.2 g5.below⟩
                  case u1 =>
                    have s := p1 hj0
                    obtain ⟨sg0, so, g, ea, hx, hg⟩ := s
                    exact ⟨grown_trans sg0 (grown_of_below g5.below _), own_below so g5.below, g, ea, hx.up g5.below, hg⟩
                  case u2 =>
                    have s := p2 hj0
                    obtain ⟨va, vn, vc, ea, sg0, sg1, sg2⟩ := s
                    exact ⟨va, vn, vc, ea, grown_trans sg0 (grown_of_below g5.below _), sg1, own_below sg2 g5.below⟩
                  case u3 =>
                    have s := p3 hj0
                    obtain ⟨va, vn, vc, ea, sg0, sg1, sg2⟩ := s
                    exact ⟨va, vn, vc, ea, grown_trans sg0 (grown_of_below g5.below _), sg1, own_below sg2 g5.below⟩
                  case u4 =>
                    have s := p4 hj0
                    obtain ⟨v', q⟩ := s
                    exact ⟨v', q.grow g5.below⟩
                · rintro d ⟨x54, x55, x56, x57, x58, x59, x60, x61, x62, x63, x64, x65, x66, x67, x68, x69⟩ w' hI hd hdp KQ hK
                  dsimp only at hI
                  obtain ⟨hS, ⟨f0, f1, f2, f3, f4, f5, f6, f7, f8, f9, f10, f11, f12⟩, j, hj, ⟨dd13, dd14, dd15, dd16⟩, ⟨p0, p1, p2, p3, p4⟩⟩ := hI
                  have HF : Hid _ := And.intro hS (And.intro (And.intro f0 (And.intro f1 (And.intro f2 (And.intro f3 (And.intro f4 (And.intro f5 (And.intro f6 (And.intro f7 (And.intro f8 (And.intro f9 (And.intro f10 (And.intro f11 f12)))))))))))) (And.intro hj (And.intro (And.intro dd13 (And.intro dd14 (And.intro dd15 dd16))) (And.intro p0 (And.intro p1 (And.intro p2 (And.intro p3 p4)))))))
                  clear hS f0 f1 f2 f3 f4 f5 f6 f7 f8 f9 f10 f11 f12 hj dd13 dd14 dd15 dd16 p0 p1 p2 p3 p4 hdp hd
                  refine Opn.mk ?_
                  dsimp only
                  go_simp
                  obtain ⟨hS, ⟨f0, f1, f2, f3, f4, f5, f6, f7, f8, f9, f10, f11, f12⟩, hj, ⟨dd13, dd14, dd15, dd16⟩, ⟨p0, p1, p2, p3, p4⟩⟩ := HF.out
                  exact hK.out (x54, x55, x56, x57, x58, x59, .pointer (some ⟨b3, 4, none⟩), x61, x62, x63, x64, x65, x66, x67, x68, x69) _ ⟨hS, ⟨(fun h => f0 (upd_ne h (by decide))), (fun h => f1 (upd_ne h (by decide))), (fun h => f2 (upd_ne h (by decide))), (fun h => f3 (upd_ne h (by decide))), (fun h => f4 (upd_ne h (by decide))), (fun h => f5 (upd_ne h (by decide))), (fun _ => rfl), (fun h => f7 (upd_ne h (by decide))), (fun h => f8 (upd_ne h (by decide))), (fun h => f9 (upd_ne h (by decide))), (fun h => f10 (upd_ne h (by decide))), (fun h => f11 (upd_ne h (by decide))), (fun h => f12 (upd_ne h (by decide)))⟩, j, hj, ⟨((upd_no (by decide)).trans dd13), ((upd_no (by decide)).trans dd14), ((upd_no (by decide)).trans dd15), ((upd_no (by decide)).trans dd16)⟩, ⟨p0, p1, p2, p3, p4⟩⟩
                · rintro d ⟨x54, x55, x56, x57, x58, x59, x60, x61, x62, x63, x64, x65, x66, x67, x68, x69⟩ w' hI hd hdp KQ hK
                  dsimp only at hI
                  obtain ⟨hS, ⟨f0, f1, f2, f3, f4, f5, f6, f7, f8, f9, f10, f11, f12⟩, j, hj, ⟨dd13, dd14, dd15, dd16⟩, ⟨p0, p1, p2, p3, p4⟩⟩ := hI
                  obtain rfl := f6 (hdp 6 (by decide +kernel))
                  obtain ⟨cs0, cs1, cs2, cs3, cs4⟩ := HQD.out.2.1 w' hS
                  have HF : Hid _ := And.intro hS (And.intro (And.intro f0 (And.intro f1 (And.intro f2 (And.intro f3 (And.intro f4 (And.intro f5 (And.intro f6 (And.intro f7 (And.intro f8 (And.intro f9 (And.intro f10 (And.intro f11 f12)))))))))))) (And.intro hj (And.intro (And.intro dd13 (And.intro dd14 (And.intro dd15 dd16))) (And.intro p0 (And.intro p1 (And.intro p2 (And.intro p3 p4)))))))
                  clear hS f0 f1 f2 f3 f4 f5 f6 f7 f8 f9 f10 f11 f12 hj dd13 dd14 dd15 dd16 p0 p1 p2 p3 p4 hdp hd
                  refine Opn.mk ?_
                  dsimp only
                  go_simp
                  obtain ⟨hS, ⟨f0, f1, f2, f3, f4, f5, f6, f7, f8, f9, f10, f11, f12⟩, hj, ⟨dd13, dd14, dd15, dd16⟩, ⟨p0, p1, p2, p3, p4⟩⟩ := HF.out
                  exact hK.out (x54, x55, x56, x57, x58, x59, .pointer (some ⟨b3, 4, none⟩), .int .i64 gc, x62, x63, x64, x65, x66, x67, x68, x69) _ ⟨hS, ⟨(fun h => f0 (upd_ne h (by decide))), (fun h => f1 (upd_ne h (by decide))), (fun h => f2 (upd_ne h (by decide))), (fun h => f3 (upd_ne h (by decide))), (fun h => f4 (upd_ne h (by decide))), (fun h => f5 (upd_ne h (by decide))), (fun _ => rfl), (fun _ => rfl), (fun h => f8 (upd_ne h (by decide))), (fun h => f9 (upd_ne h (by decide))), (fun h => f10 (upd_ne h (by decide))), (fun h => f11 (upd_ne h (by decide))), (fun h => f12 (upd_ne h (by decide)))⟩, j, hj, ⟨((upd_no (by decide)).trans dd13), ((upd_no (by decide)).trans dd14), ((upd_no (by decide)).trans dd15), ((upd_no (by decide)).trans dd16)⟩, ⟨p0, p1, p2, p3, p4⟩⟩
                · rintro d ⟨x54, x55, x56, x57, x58, x59, x60, x61, x62, x63, x64, x65, x66, x67, x68, x69⟩ w' hI hd hdp KQ hK
                  dsimp only at hI
                  obtain ⟨hS, ⟨f0, f1, f2, f3, f4, f5, f6, f7, f8, f9, f10, f11, f12⟩, j, hj, ⟨dd13, dd14, dd15, dd16⟩, ⟨p0, p1, p2, p3, p4⟩⟩ := hI
                  have HF : Hid _ := And.intro hS (And.intro (And.intro f0 (And.intro f1 (And.intro f2 (And.intro f3 (And.intro f4 (And.intro f5 (And.intro f6 (And.intro f7 (And.intro f8 (And.intro f9 (And.intro f10 (And.intro f11 f12)))))))))))) (And.intro hj (And.intro (And.intro dd13 (And.intro dd14 (And.intro dd15 dd16))) (And.intro p0 (And.intro p1 (And.intro p2 (And.intro p3 p4)))))))
                  clear hS f0 f1 f2 f3 f4 f5 f6 f7 f8 f9 f10 f11 f12 hj dd13 dd14 dd15 dd16 p0 p1 p2 p3 p4 hdp hd
                  refine Opn.mk ?_
                  dsimp only
                  go_simp
                  obtain ⟨hS, ⟨f0, f1, f2, f3, f4, f5, f6, f7, f8, f9, f10, f11, f12⟩, hj, ⟨dd13, dd14, dd15, dd16⟩, ⟨p0, p1, p2, p3, p4⟩⟩ := HF.out
                  exact hK.out (x54, x55, x56, x57, x58, x59, x60, x61, .pointer (some ⟨gb, 1, none⟩), x63, x64, x65, x66, x67, x68, x69) _ ⟨hS, ⟨(fun h => f0 (upd_ne h (by decide))), (fun h => f1 (upd_ne h (by decide))), (fun h => f2 (upd_ne h (by decide))), (fun h => f3 (upd_ne h (by decide))), (fun h => f4 (upd_ne h (by decide))), (fun h => f5 (upd_ne h (by decide))), (fun h => f6 (upd_ne h (by decide))), (fun h => f7 (upd_ne h (by decide))), (fun _ => rfl), (fun h => f9 (upd_ne h (by decide))), (fun h => f10 (upd_ne h (by decide))), (fun h => f11 (upd_ne h (by decide))), (fun h => f12 (upd_ne h (by decide)))⟩, j, hj, ⟨((upd_no (by decide)).trans dd13), ((upd_no (by decide)).trans dd14), ((upd_no (by decide)).trans dd15), ((upd_no (by decide)).trans dd16)⟩, ⟨p0, p1, p2, p3, p4⟩⟩
                · rintro d ⟨x54, x55, x56, x57, x58, x59, x60, x61, x62, x63, x64, x65, x66, x67, x68, x69⟩ w' hI hd hdp KQ hK
                  dsimp only at hI
                  obtain ⟨hS, ⟨f0, f1, f2, f3, f4, f5, f6, f7, f8, f9, f10, f11, f12⟩, j, hj, ⟨dd13, dd14, dd15, dd16⟩, ⟨p0, p1, p2, p3, p4⟩⟩ := hI
                  obtain rfl := f8 (hdp 8 (by decide +kernel))
                  obtain ⟨ct0, ct1⟩ := HQD.out.2.2 w' hS
                  have HF : Hid _ := And.intro hS (And.intro (And.intro f0 (And.intro f1 (And.intro f2 (And.intro f3 (And.intro f4 (And.intro f5 (And.intro f6 (And.intro f7 (And.intro f8 (And.intro f9 (And.intro f10 (And.intro f11 f12)))))))))))) (And.intro hj (And.intro (And.intro dd13 (And.intro dd14 (And.intro dd15 dd16))) (And.intro p0 (And.intro p1 (And.intro p2 (And.intro p3 p4)))))))
                  clear hS f0 f1 f2 f3 f4 f5 f6 f7 f8 f9 f10 f11 f12 hj dd13 dd14 dd15 dd16 p0 p1 p2 p3 p4 hdp hd
                  refine Opn.mk ?_
                  dsimp only
                  go_simp
                  obtain ⟨hS, ⟨f0, f1, f2, f3, f4, f5, f6, f7, f8, f9, f10, f11, f12⟩, hj, ⟨dd13, dd14, dd15, dd16⟩, ⟨p0, p1, p2, p3, p4⟩⟩ := HF.out
                  exact hK.out (x54, x55, x56, x57, x58, x59, x60, x61, .pointer (some ⟨gb, 1, none⟩), (Value.slice pa np pc), x64, x65, x66, x67, x68, x69) _ ⟨hS, ⟨(fun h => f0 (upd_ne h (by decide))), (fun h => f1 (upd_ne h (by decide))), (fun h => f2 (upd_ne h (by decide))), (fun h => f3 (upd_ne h (by decide))), (fun h => f4 (upd_ne h (by decide))), (fun h => f5 (upd_ne h (by decide))), (fun h => f6 (upd_ne h (by decide))), (fun h => f7 (upd_ne h (by decide))), (fun _ => rfl), (fun _ => rfl), (fun h => f10 (upd_ne h (by decide))), (fun h => f11 (upd_ne h (by decide))), (fun h => f12 (upd_ne h (by decide)))⟩, j, hj, ⟨((upd_no (by decide)).trans dd13), ((upd_no (by decide)).trans dd14), ((upd_no (by decide)).trans dd15), ((upd_no (by decide)).trans dd16)⟩, ⟨p0, p1, p2, p3, p4⟩⟩
                · rintro d ⟨x54, x55, x56, x57, x58, x59, x60, x61, x62, x63, x64, x65, x66, x67, x68, x69⟩ w' hI hd hdp KQ hK
                  dsimp only at hI
                  obtain ⟨hS, ⟨f0, f1, f2, f3, f4, f5, f6, f7, f8, f9, f10, f11, f12⟩, j, hj, ⟨dd13, dd14, dd15, dd16⟩, ⟨p0, p1, p2, p3, p4⟩⟩ := hI
                  have HF : Hid _ := And.intro hS (And.intro (And.intro f0 (And.intro f1 (And.intro f2 (And.intro f3 (And.intro f4 (And.intro f5 (And.intro f6 (And.intro f7 (And.intro f8 (And.intro f9 (And.intro f10 (And.intro f11 f12)))))))))))) (And.intro hj (And.intro (And.intro dd13 (And.intro dd14 (And.intro dd15 dd16))) (And.intro p0 (And.intro p1 (And.intro p2 (And.intro p3 p4)))))))
                  clear hS f0 f1 f2 f3 f4 f5 f6 f7 f8 f9 f10 f11 f12 hj dd13 dd14 dd15 dd16 p0 p1 p2 p3 p4 hdp hd
                  refine Opn.mk ?_
                  dsimp only
                  go_simp
                  obtain ⟨hS, ⟨f0, f1, f2, f3, f4, f5, f6, f7, f8, f9, f10, f11, f12⟩, hj, ⟨dd13, dd14, dd15, dd16⟩, ⟨p0, p1, p2, p3, p4⟩⟩ := HF.out
                  exact hK.out (x54, x55, x56, x57, x58, x59, x60, x61, x62, x63, .int .i64 (at' : Nat), x65, x66, x67, x68, x69) _ ⟨hS, ⟨(fun h => f0 (upd_ne h (by decide))), (fun h => f1 (upd_ne h (by decide))), (fun h => f2 (upd_ne h (by decide))), (fun h => f3 (upd_ne h (by decide))), (fun h => f4 (upd_ne h (by decide))), (fun h => f5 (upd_ne h (by decide))), (fun h => f6 (upd_ne h (by decide))), (fun h => f7 (upd_ne h (by decide))), (fun h => f8 (upd_ne h (by decide))), (fun h => f9 (upd_ne h (by decide))), (fun _ => rfl), (fun h => f11 (upd_ne h (by decide))), (fun h => f12 (upd_ne h (by decide)))⟩, j, hj, ⟨((upd_no (by decide)).trans dd13), ((upd_no (by decide)).trans dd14), ((upd_no (by decide)).trans dd15), ((upd_no (by decide)).trans dd16)⟩, ⟨p0, p1, p2, p3, p4⟩⟩
                · rintro d ⟨x54, x55, x56, x57, x58, x59, x60, x61, x62, x63, x64, x65, x66, x67, x68, x69⟩ w' hI hd hdp KQ hK
                  dsimp only at hI
                  obtain ⟨hS, ⟨f0, f1, f2, f3, f4, f5, f6, f7, f8, f9, f10, f11, f12⟩, j, hj, ⟨dd13, dd14, dd15, dd16⟩, ⟨p0, p1, p2, p3, p4⟩⟩ := hI
                  have HF : Hid _ := And.intro hS (And.intro (And.intro f0 (And.intro f1 (And.intro f2 (And.intro f3 (And.intro f4 (And.intro f5 (And.intro f6 (And.intro f7 (And.intro f8 (And.intro f9 (And.intro f10 (And.intro f11 f12)))))))))))) (And.intro hj (And.intro (And.intro dd13 (And.intro dd14 (And.intro dd15 dd16))) (And.intro p0 (And.intro p1 (And.intro p2 (And.intro p3 p4)))))))
                  clear hS f0 f1 f2 f3 f4 f5 f6 f7 f8 f9 f10 f11 f12 hj dd13 dd14 dd15 dd16 p0 p1 p2 p3 p4 hdp hd
                  refine Opn.mk ?_
                  dsimp only
                  go_simp
                  obtain ⟨hS, ⟨f0, f1, f2, f3, f4, f5, f6, f7, f8, f9, f10, f11, f12⟩, hj, ⟨dd13, dd14, dd15, dd16⟩, ⟨p0, p1, p2, p3, p4⟩⟩ := HF.out
                  exact hK.out (x54, x55, x56, x57, x58, x59, x60, x61, x62, x63, x64, .pointer (some ⟨b3, 3, none⟩), x66, x67, x68, x69) _ ⟨hS, ⟨(fun h => f0 (upd_ne h (by decide))), (fun h => f1 (upd_ne h (by decide))), (fun h => f2 (upd_ne h (by decide))), (fun h => f3 (upd_ne h (by decide))), (fun h => f4 (upd_ne h (by decide))), (fun h => f5 (upd_ne h (by decide))), (fun h => f6 (upd_ne h (by decide))), (fun h => f7 (upd_ne h (by decide))), (fun h => f8 (upd_ne h (by decide))), (fun h => f9 (upd_ne h (by decide))), (fun h => f10 (upd_ne h (by decide))), (fun _ => rfl), (fun h => f12 (upd_ne h (by decide)))⟩, j, hj, ⟨((upd_no (by decide)).trans dd13), ((upd_no (by decide)).trans dd14), ((upd_no (by decide)).trans dd15), ((upd_no (by decide)).trans dd16)⟩, ⟨p0, p1, p2, p3, p4⟩⟩
                · rintro d ⟨x54, x55, x56, x57, x58, x59, x60, x61, x62, x63, x64, x65, x66, x67, x68, x69⟩ w' hI hd hdp KQ hK
                  dsimp only at hI
                  obtain ⟨hS, ⟨f0, f1, f2, f3, f4, f5, f6, f7, f8, f9, f10, f11, f12⟩, j, hj, ⟨dd13, dd14, dd15, dd16⟩, ⟨p0, p1, p2, p3, p4⟩⟩ := hI
                  obtain rfl := f11 (hdp 11 (by decide +kernel))
                  obtain ⟨cs0, cs1, cs2, cs3, cs4⟩ := HQD.out.2.1 w' hS
                  have HF : Hid _ := And.intro hS (And.intro (And.intro f0 (And.intro f1 (And.intro f2 (And.intro f3 (And.intro f4 (And.intro f5 (And.intro f6 (And.intro f7 (And.intro f8 (And.intro f9 (And.intro f10 (And.intro f11 f12)))))))))))) (And.intro hj (And.intro (And.intro dd13 (And.intro dd14 (And.intro dd15 dd16))) (And.intro p0 (And.intro p1 (And.intro p2 (And.intro p3 p4)))))))
                  clear hS f0 f1 f2 f3 f4 f5 f6 f7 f8 f9 f10 f11 f12 hj dd13 dd14 dd15 dd16 p0 p1 p2 p3 p4 hdp hd
                  refine Opn.mk ?_
                  dsimp only
                  go_simp
                  obtain ⟨hS, ⟨f0, f1, f2, f3, f4, f5, f6, f7, f8, f9, f10, f11, f12⟩, hj, ⟨dd13, dd14, dd15, dd16⟩, ⟨p0, p1, p2, p3, p4⟩⟩ := HF.out
                  exact hK.out (x54, x55, x56, x57, x58, x59, x60, x61, x62, x63, x64, .pointer (some ⟨b3, 3, none⟩), .int .i64 gp, x67, x68, x69) _ ⟨hS, ⟨(fun h => f0 (upd_ne h (by decide))), (fun h => f1 (upd_ne h (by decide))), (fun h => f2 (upd_ne h (by decide))), (fun h => f3 (upd_ne h (by decide))), (fun h => f4 (upd_ne h (by decide))), (fun h => f5 (upd_ne h (by decide))), (fun h => f6 (upd_ne h (by decide))), (fun h => f7 (upd_ne h (by decide))), (fun h => f8 (upd_ne h (by decide))), (fun h => f9 (upd_ne h (by decide))), (fun h => f10 (upd_ne h (by decide))), (fun _ => rfl), (fun _ => rfl)⟩, j, hj, ⟨((upd_no (by decide)).trans dd13), ((upd_no (by decide)).trans dd14), ((upd_no (by decide)).trans dd15), ((upd_no (by decide)).trans dd16)⟩, ⟨p0, p1, p2, p3, p4⟩⟩
                · rintro d ⟨x54, x55, x56, x57, x58, x59, x60, x61, x62, x63, x64, x65, x66, x67, x68, x69⟩ w' hI hd hdp KQ hK
                  dsimp only at hI
                  obtain ⟨hS, ⟨f0, f1, f2, f3, f4, f5, f6, f7, f8, f9, f10, f11, f12⟩, j, hj, ⟨dd13, dd14, dd15, dd16⟩, ⟨p0, p1, p2, p3, p4⟩⟩ := hI
                  obtain rfl := f12 (hdp 12 (by decide +kernel))
                  obtain rfl := ph_zero dd13 hd
                  have s := p0 rfl
                  clear p0 p1 p2 p3 p4 hj
                  have HG : Hid _ := And.intro hS s
                  clear hS s
                  have HF : Hid _ := And.intro (And.intro f0 (And.intro f1 (And.intro f2 (And.intro f3 (And.intro f4 (And.intro f5 (And.intro f6 (And.intro f7 (And.intro f8 (And.intro f9 (And.intro f10 (And.intro f11 f12)))))))))))) (And.intro dd13 (And.intro dd14 (And.intro dd15 dd16)))
                  clear f0 f1 f2 f3 f4 f5 f6 f7 f8 f9 f10 f11 f12 dd13 dd14 dd15 dd16 hdp hd
                  refine Opn.mk ?_
                  dsimp only
                  go_simp
                  obtain ⟨hS, s⟩ := HG.out
                  obtain ⟨⟨f0, f1, f2, f3, f4, f5, f6, f7, f8, f9, f10, f11, f12⟩, ⟨dd13, dd14, dd15, dd16⟩⟩ := HF.out
                  refine hK.out (x54, x55, x56, x57, x58, x59, x60, x61, x62, x63, x64, x65, .int .i64 gp, .slice (some ⟨w'.heap.size, 0, none⟩) 1 1, x68, x69) _ ⟨?sg, ⟨(fun h => f0 (upd_ne h (by decide))), (fun h => f1 (upd_ne h (by decide))), (fun h => f2 (upd_ne h (by decide))), (fun h => f3 (upd_ne h (by decide))), (fun h => f4 (upd_ne h (by decide))), (fun h => f5 (upd_ne h (by decide))), (fun h => f6 (upd_ne h (by decide))), (fun h => f7 (upd_ne h (by decide))), (fun h => f8 (upd_ne h (by decide))), (fun h => f9 (upd_ne h (by decide))), (fun h => f10 (upd_ne h (by decide))), (fun h => f11 (upd_ne h (by decide))), (fun _ => rfl)⟩, 1, by decide, ⟨(by simp [upd]), ((upd_no (by decide)).trans (dd14.trans (by decide))), ((upd_no (by decide)).trans (dd15.trans (by decide))), ((upd_no (by decide)).trans (dd16.trans (by decide)))⟩, ⟨(fun h => absurd h (by decide)), (fun _ => ?new), (fun h => absurd h (by decide)), (fun h => absurd h (by decide)), (fun h => absurd h (by decide))⟩⟩
                  case sg => exact hS.trans (Fr.of_below ((Below.refl _ _).alloc (Nat.le_refl _) _)) fun _ _ h => h
                  case new =>
                    exact ⟨grown_trans s.1 (grown_alloc _ _ _), own_below s.2 ((Below.refl _ _).alloc (Nat.le_refl _) _), _, rfl, BxA.new _ _ _, s.1.size⟩
                · rintro d ⟨x54, x55, x56, x57, x58, x59, x60, x61, x62, x63, x64, x65, x66, x67, x68, x69⟩ w' hI hd hdp KQ hK
                  dsimp only at hI
                  obtain ⟨hS, ⟨f0, f1, f2, f3, f4, f5, f6, f7, f8, f9, f10, f11, f12⟩, j, hj, ⟨dd13, dd14, dd15, dd16⟩, ⟨p0, p1, p2, p3, p4⟩⟩ := hI
                  obtain rfl := f9 (hdp 9 (by decide +kernel))
                  obtain rfl := f10 (hdp 10 (by decide +kernel))
                  obtain rfl := ph_eq (k := 0) dd14 hd dd13 (hdp 13 (by decide +kernel))
                  have s := p1 rfl
                  clear p0 p1 p2 p3 p4 hj
                  obtain ⟨sg0, so, g, ea, hx, hg⟩ := s
                  subst ea
                  have hne0 : (Value.slice pa np pc).ownBlock ≠ some g := fun q => by have h1 := (own_lt HOV.out _ q).2; omega
                  have kk := ins_int w' (Value.slice pa np pc) ps at' gp g so HAT.out.1 hx hne0 HPL.out
                  clear so hne0
                  have HG : Hid _ := And.intro hS (And.intro sg0 hg)
                  clear hS sg0 hx hg
                  have HF : Hid _ := And.intro (And.intro f0 (And.intro f1 (And.intro f2 (And.intro f3 (And.intro f4 (And.intro f5 (And.intro f6 (And.intro f7 (And.intro f8 (And.intro f9 (And.intro f10 (And.intro f11 f12)))))))))))) (And.intro dd13 (And.intro dd14 (And.intro dd15 dd16)))
                  clear f0 f1 f2 f3 f4 f5 f6 f7 f8 f9 f10 f11 f12 dd13 dd14 dd15 dd16 hdp hd
                  refine Opn.mk ?_
                  dsimp only
                  go_simp
                  go_wp2_with (first | (go_at_call 32; with_reducible refine kk.mono ?_; rintro e5 w5 ⟨v', rfl, rn⟩))
                  obtain ⟨hS, sg0, hg⟩ := HG.out
                  obtain ⟨⟨f0, f1, f2, f3, f4, f5, f6, f7, f8, f9, f10, f11, f12⟩, ⟨dd13, dd14, dd15, dd16⟩⟩ := HF.out
                  refine hK.out (x54, x55, x56, x57, x58, x59, x60, x61, x62, (Value.slice pa np pc), .int .i64 (at' : Nat), x65, x66, .slice (some ⟨g, 0, none⟩) 1 1, v', x69) _ ⟨?sg, ⟨(fun h => f0 (upd_ne h (by decide))), (fun h => f1 (upd_ne h (by decide))), (fun h => f2 (upd_ne h (by decide))), (fun h => f3 (upd_ne h (by decide))), (fun h => f4 (upd_ne h (by decide))), (fun h => f5 (upd_ne h (by decide))), (fun h => f6 (upd_ne h (by decide))), (fun h => f7 (upd_ne h (by decide))), (fun h => f8 (upd_ne h (by decide))), (fun _ => rfl), (fun _ => rfl), (fun h => f11 (upd_ne h (by decide))), (fun h => f12 (upd_ne h (by decide)))⟩, 2, by decide, ⟨((upd_no (by decide)).trans (dd13.trans (by decide))), (by simp [upd]), ((upd_no (by decide)).trans (dd15.trans (by decide))), ((upd_no (by decide)).trans (dd16.trans (by decide)))⟩, ⟨(fun h => absurd h (by decide)), (fun h => absurd h (by decide)), (fun _ => ?new), (fun h => absurd h (by decide)), (fun h => absurd h (by decide))⟩⟩
                  case sg => exact hS.trans (Fr.of_grown (F := fun i => (Value.slice pa np pc).ownBlock = some i ∨ i = m) rn.grown fun j hj => .inl (.inl hj)) fun _ _ h => h
                  case new =>
                    obtain ⟨va, vc, ev'⟩ := own_sl rn.own
                    subst ev'
                    refine ⟨va, _, vc, rfl, grown_trans sg0 rn.grown, fun r hr => (rn.blk r hr).imp id fun h => Nat.le_trans sg0.size h, ?_⟩
                    unfold insP
                    rw [← HAT.out.2]
                    exact rn.own
                · rintro d ⟨x54, x55, x56, x57, x58, x59, x60, x61, x62, x63, x64, x65, x66, x67, x68, x69⟩ w' hI hd hdp KQ hK
                  dsimp only at hI
                  obtain ⟨hS, ⟨f0, f1, f2, f3, f4, f5, f6, f7, f8, f9, f10, f11, f12⟩, j, hj, ⟨dd13, dd14, dd15, dd16⟩, ⟨p0, p1, p2, p3, p4⟩⟩ := hI
                  obtain rfl := f7 (hdp 7 (by decide +kernel))
                  obtain rfl := ph_eq (k := 1) dd15 hd dd14 (hdp 14 (by decide +kernel))
                  have s := p2 rfl
                  clear p0 p1 p2 p3 p4 hj
                  obtain ⟨va, vn, vc, ea, s⟩ := s
                  subst ea
                  have HG : Hid _ := And.intro hS s
                  clear hS s
                  have HF : Hid _ := And.intro (And.intro f0 (And.intro f1 (And.intro f2 (And.intro f3 (And.intro f4 (And.intro f5 (And.intro f6 (And.intro f7 (And.intro f8 (And.intro f9 (And.intro f10 (And.intro f11 f12)))))))))))) (And.intro dd13 (And.intro dd14 (And.intro dd15 dd16)))
                  clear f0 f1 f2 f3 f4 f5 f6 f7 f8 f9 f10 f11 f12 dd13 dd14 dd15 dd16 hdp hd
                  refine Opn.mk ?_
                  dsimp only
                  go_simp
                  obtain ⟨hS, s⟩ := HG.out
                  obtain ⟨⟨f0, f1, f2, f3, f4, f5, f6, f7, f8, f9, f10, f11, f12⟩, ⟨dd13, dd14, dd15, dd16⟩⟩ := HF.out
                  refine hK.out (x54, x55, x56, x57, x58, x59, x60, .int .i64 gc, x62, x63, x64, x65, x66, x67, .slice va vn vc, .agg #[.int .i64 gc, .slice va vn vc]) _ ⟨?sg, ⟨(fun h => f0 (upd_ne h (by decide))), (fun h => f1 (upd_ne h (by decide))), (fun h => f2 (upd_ne h (by decide))), (fun h => f3 (upd_ne h (by decide))), (fun h => f4 (upd_ne h (by decide))), (fun h => f5 (upd_ne h (by decide))), (fun h => f6 (upd_ne h (by decide))), (fun _ => rfl), (fun h => f8 (upd_ne h (by decide))), (fun h => f9 (upd_ne h (by decide))), (fun h => f10 (upd_ne h (by decide))), (fun h => f11 (upd_ne h (by decide))), (fun h => f12 (upd_ne h (by decide)))⟩, 3, by decide, ⟨((upd_no (by decide)).trans (dd13.trans (by decide))), ((upd_no (by decide)).trans (dd14.trans (by decide))), (by simp [upd]), ((upd_no (by decide)).trans (dd16.trans (by decide)))⟩, ⟨(fun h => absurd h (by decide)), (fun h => absurd h (by decide)), (fun h => absurd h (by decide)), (fun _ => ?new), (fun h => absurd h (by decide))⟩⟩
                  case sg => exact hS
                  case new =>
                    exact ⟨va, vn, vc, rfl, s⟩
                · rintro d ⟨x54, x55, x56, x57, x58, x59, x60, x61, x62, x63, x64, x65, x66, x67, x68, x69⟩ w' hI hd hdp KQ hK
                  dsimp only at hI
                  obtain ⟨hS, ⟨f0, f1, f2, f3, f4, f5, f6, f7, f8, f9, f10, f11, f12⟩, j, hj, ⟨dd13, dd14, dd15, dd16⟩, ⟨p0, p1, p2, p3, p4⟩⟩ := hI
                  obtain rfl := f3 (hdp 3 (by decide +kernel))
                  obtain rfl := f5 (hdp 5 (by decide +kernel))
                  obtain rfl := ph_eq (k := 2) dd16 hd dd15 (hdp 15 (by decide +kernel))
                  have s := p3 rfl
                  clear p0 p1 p2 p3 p4 hj
                  obtain ⟨va, vn, vc, ea, sg0, sg1, sg2⟩ := s
                  subst ea
                  obtain ⟨w6, hrun, r1, r2⟩ := World.ownsMap.update (HMV.out.kept sg0 HNM.out) law Try.underlying61 (by have := HFEW.out; unfold maxLen; exact Nat.lt_of_le_of_lt this (by decide)) (key_mk (k1, k2, k3) HB3.out) (sel_mk gc (flat_own sg2))
                  unfold kv at hrun
                  simp only at hrun
                  have HG : Hid _ := And.intro hS (And.intro sg0 (And.intro sg1 (And.intro sg2 (And.intro r1 r2))))
                  clear hS sg0 sg1 sg2 r1 r2
                  have HF : Hid _ := And.intro (And.intro f0 (And.intro f1 (And.intro f2 (And.intro f3 (And.intro f4 (And.intro f5 (And.intro f6 (And.intro f7 (And.intro f8 (And.intro f9 (And.intro f10 (And.intro f11 f12)))))))))))) (And.intro dd13 (And.intro dd14 (And.intro dd15 dd16)))
                  clear f0 f1 f2 f3 f4 f5 f6 f7 f8 f9 f10 f11 f12 dd13 dd14 dd15 dd16 hdp hd
                  refine Opn.mk ?_
                  dsimp only
                  go_simp
                  obtain ⟨hS, sg0, sg1, sg2, r1, r2⟩ := HG.out
                  obtain ⟨⟨f0, f1, f2, f3, f4, f5, f6, f7, f8, f9, f10, f11, f12⟩, ⟨dd13, dd14, dd15, dd16⟩⟩ := HF.out
                  refine hK.out (x54, x55, x56, .map (some m), x58, .agg #[.int .i64 k1, .int .i64 k2, .int .i64 k3], x60, x61, x62, x63, x64, x65, x66, x67, x68, .agg #[.int .i64 gc, .slice va vn vc]) _ ⟨?sg, ⟨(fun h => f0 (upd_ne h (by decide))), (fun h => f1 (upd_ne h (by decide))), (fun h => f2 (upd_ne h (by decide))), (fun _ => rfl), (fun h => f4 (upd_ne h (by decide))), (fun _ => rfl), (fun h => f6 (upd_ne h (by decide))), (fun h => f7 (upd_ne h (by decide))), (fun h => f8 (upd_ne h (by decide))), (fun h => f9 (upd_ne h (by decide))), (fun h => f10 (upd_ne h (by decide))), (fun h => f11 (upd_ne h (by decide))), (fun h => f12 (upd_ne h (by decide)))⟩, 4, by decide, ⟨((upd_no (by decide)).trans (dd13.trans (by decide))), ((upd_no (by decide)).trans (dd14.trans (by decide))), ((upd_no (by decide)).trans (dd15.trans (by decide))), (by simp [upd])⟩, ⟨(fun h => absurd h (by decide)), (fun h => absurd h (by decide)), (fun h => absurd h (by decide)), (fun h => absurd h (by decide)), (fun _ => ?new)⟩⟩
                  case sg => exact hS.trans (Fr.of_grown (F := fun i => (Value.slice pa np pc).ownBlock = some i ∨ i = m) r2 fun j hj => .inl (.inr (Option.some.inj hj).symm)) fun _ _ h => h
                  case new =>
                    exact ⟨_, tl_put HZV.out HFN.out HGC.out HB3.out sg0 sg2 sg1 HMV.out HMD.out r1 r2⟩
              case he1000 =>
                rintro d ⟨x54, x55, x56, x57, x58, x59, x60, x61, x62, x63, x64, x65, x66, x67, x68, x69⟩ w' hall hI
                dsimp only at hI
                obtain ⟨hS, ⟨f0, f1, f2, f3, f4, f5, f6, f7, f8, f9, f10, f11, f12⟩, j, hj, ⟨dd13, dd14, dd15, dd16⟩, ⟨p0, p1, p2, p3, p4⟩⟩ := hI
                obtain rfl := ph_end (k := 3) hj dd16 (hall 16 (by decide))
                have s := p4 rfl

                clear hall hj f0 f1 f2 f3 f4 f5 f6 f7 f8 f9 f10 f11 f12 dd13 dd14 dd15 dd16 p0 p1 p2 p3 p4
                obtain ⟨v', q⟩ := s
                have HT : Hid _ := q
                clear q hS
                try dsimp only
                go_wp2_with fail
                go_ret
                exact HEND.out v' _ HT.out
            case true =>
              have hb2 : (c != gc) = false := by simp [HGC.out rfl]
              clear hform
              go_upto_region 11 with fail
              clear ct0 cs4 hb2
              try dsimp only
              refine wp_region_invF (β := Value × Value × Value × Value × Value × Value × Value × Value × Value × Value × Value × Value × Value × Value × Value × Value) (fun a0 xq => ((((((((((((((((a0.put (some 54) (xq.1)).put (some 55) (xq.2.1)).put (some 56) (xq.2.2.1)).put (some 57) (xq.2.2.2.1)).put (some 58) (xq.2.2.2.2.1)).put (some 59) (xq.2.2.2.2.2.1)).put (some 60) (xq.2.2.2.2.2.2.1)).put (some 61) (xq.2.2.2.2.2.2.2.1)).put (some 62) (xq.2.2.2.2.2.2.2.2.1)).put (some 63) (xq.2.2.2.2.2.2.2.2.2.1)).put (some 64) (xq.2.2.2.2.2.2.2.2.2.2.1)).put (some 65) (xq.2.2.2.2.2.2.2.2.2.2.2.1)).put (some 66) (xq.2.2.2.2.2.2.2.2.2.2.2.2.1)).put (some 67) (xq.2.2.2.2.2.2.2.2.2.2.2.2.2.1)).put (some 68) (xq.2.2.2.2.2.2.2.2.2.2.2.2.2.2.1)).put (some 69) (xq.2.2.2.2.2.2.2.2.2.2.2.2.2.2.2))) ?fr1001 (fun xq d w' => (Fr (fun i => (Value.slice pa np pc).ownBlock = some i ∨ i = m) V w') ∧ ((d 0 = true → (xq.1) = .pointer (some ⟨t, 0, none⟩)) ∧ (d 1 = true → (xq.2.1) = .pointer (some ⟨t, 0, none⟩)) ∧ (d 2 = true → (xq.2.2.1) = .pointer (some ⟨t, 0, none⟩)) ∧ (d 3 = true → (xq.2.2.2.1) = .map (some m)) ∧ (d 4 = true → (xq.2.2.2.2.1) = .agg #[.int .i64 k1, .int .i64 k2, .int .i64 k3, .int .i64 gp, .int .i64 gc]) ∧ (d 5 = true → (xq.2.2.2.2.2.1) = .agg #[.int .i64 k1, .int .i64 k2, .int .i64 k3]) ∧ (d 6 = true → (xq.2.2.2.2.2.2.1) = .pointer (some ⟨b3, 4, none⟩)) ∧ (d 7 = true → (xq.2.2.2.2.2.2.2.1) = .int .i64 gc) ∧ (d 8 = true → (xq.2.2.2.2.2.2.2.2.1) = .pointer (some ⟨gb, 1, none⟩)) ∧ (d 9 = true → (xq.2.2.2.2.2.2.2.2.2.1) = (Value.slice pa np pc)) ∧ (d 10 = true → (xq.2.2.2.2.2.2.2.2.2.2.1) = .int .i64 (at' : Nat)) ∧ (d 11 = true → (xq.2.2.2.2.2.2.2.2.2.2.2.1) = .pointer (some ⟨b3, 3, none⟩)) ∧ (d 12 = true → (xq.2.2.2.2.2.2.2.2.2.2.2.2.1) = .int .i64 gp)) ∧ ∃ j : Nat, j ≤ 4 ∧ (d 13 = decide (0 < j) ∧ d 14 = decide (1 < j) ∧ d 15 = decide (2 < j) ∧ d 16 = decide (3 < j)) ∧ ((j = 0 → V.grownBy w' (Value.slice pa np pc).ownBlock ∧ OwI w' (Value.slice pa np pc) ps) ∧ (j = 1 → V.grownBy w' (Value.slice pa np pc).ownBlock ∧ OwI w' (Value.slice pa np pc) ps ∧ ∃ g, (xq.2.2.2.2.2.2.2.2.2.2.2.2.2.1) = .slice (some ⟨g, 0, none⟩) 1 1 ∧ BxA w' g 3 #[.int .i64 gp] ∧ V.heap.size ≤ g) ∧ (j = 2 → ∃ va vn vc, (xq.2.2.2.2.2.2.2.2.2.2.2.2.2.2.1) = .slice va vn vc ∧ V.grownBy w' (Value.slice pa np pc).ownBlock ∧ (∀ r, (Value.slice va vn vc).ownBlock = some r → (Value.slice pa np pc).ownBlock = some r ∨ V.heap.size ≤ r) ∧ OwI w' (Value.slice va vn vc) (insP ps gp)) ∧ (j = 3 → ∃ va vn vc, (xq.2.2.2.2.2.2.2.2.2.2.2.2.2.2.2) = .agg #[.int .i64 gc, .slice va vn vc] ∧ V.grownBy w' (Value.slice pa np pc).ownBlock ∧ (∀ r, (Value.slice va vn vc).ownBlock = some r → (Value.slice pa np pc).ownBlock = some r ∨ V.heap.size ≤ r) ∧ OwI w' (Value.slice va vn vc) (insP ps gp)) ∧ (j = 4 → ∃ v' : Value, Tw V w' t F (if true then updE s (k1, k2, k3) (insP ps gp) else s ++ [((k1, k2, k3), gc, insP ps gp)]) (fun i => F i ∨ v'.ownBlock = some i)))) ?lay1001 mixed (by kernel_rfl) ?h01001 ?hs1001 ?he1001
              case lay1001 =>
                intro xq
                simp only [Act.put, List.setIfInBounds_toArray, List.set_cons_zero, List.set_cons_succ]
                rfl
              case h01001 =>
                refine ⟨(undef, undef, undef, undef, undef, undef, undef, undef, undef, undef, undef, undef, undef, undef, undef, undef), rfl, ?sig1001, ⟨(fun h => by cases h), (fun h => by cases h), (fun h => by cases h), (fun h => by cases h), (fun h => by cases h), (fun h => by cases h), (fun h => by cases h), (fun h => by cases h), (fun h => by cases h), (fun h => by cases h), (fun h => by cases h), (fun h => by cases h), (fun h => by cases h)⟩, 0, Nat.zero_le _, ⟨rfl, rfl, rfl, rfl⟩, ?S01001, (fun h => by cases h), (fun h => by cases h), (fun h => by cases h), (fun h => by cases h)⟩
                case sig1001 => exact hSig0
                case S01001 => exact fun _ => hS00
              case hs1001 =>
                refine ⟨?_, ?_, ?_, ?_, ?_, ?_, ?_, ?_, ?_, ?_, ?_, ?_, ?_, ?_, ?_, ?_, ?_, trivial⟩
                · rintro d ⟨x54, x55, x56, x57, x58, x59, x60, x61, x62, x63, x64, x65, x66, x67, x68, x69⟩ w' hI hd hdp KQ hK
                  dsimp only at hI
                  obtain ⟨hS, ⟨f0, f1, f2, f3, f4, f5, f6, f7, f8, f9, f10, f11, f12⟩, j, hj, ⟨dd13, dd14, dd15, dd16⟩, ⟨p0, p1, p2, p3, p4⟩⟩ := hI
                  have HF : Hid _ := And.intro hS (And.intro (And.intro f0 (And.intro f1 (And.intro f2 (And.intro f3 (And.intro f4 (And.intro f5 (And.intro f6 (And.intro f7 (And.intro f8 (And.intro f9 (And.intro f10 (And.intro f11 f12)))))))))))) (And.intro hj (And.intro (And.intro dd13 (And.intro dd14 (And.intro dd15 dd16))) (And.intro p0 (And.intro p1 (And.intro p2 (And.intro p3 p4)))))))
                  clear hS f0 f1 f2 f3 f4 f5 f6 f7 f8 f9 f10 f11 f12 hj dd13 dd14 dd15 dd16 p0 p1 p2 p3 p4 hdp hd
                  refine Opn.mk ?_
                  dsimp only
                  go_simp
                  obtain ⟨hS, ⟨f0, f1, f2, f3, f4, f5, f6, f7, f8, f9, f10, f11, f12⟩, hj, ⟨dd13, dd14, dd15, dd16⟩, ⟨p0, p1, p2, p3, p4⟩⟩ := HF.out
                  exact hK.out (.pointer (some ⟨t, 0, none⟩), x55, x56, x57, x58, x59, x60, x61, x62, x63, x64, x65, x66, x67, x68, x69) _ ⟨hS, ⟨(fun _ => rfl), (fun h => f1 (upd_ne h (by decide))), (fun h => f2 (upd_ne h (by decide))), (fun h => f3 (upd_ne h (by decide))), (fun h => f4 (upd_ne h (by decide))), (fun h => f5 (upd_ne h (by decide))), (fun h => f6 (upd_ne h (by decide))), (fun h => f7 (upd_ne h (by decide))), (fun h => f8 (upd_ne h (by decide))), (fun h => f9 (upd_ne h (by decide))), (fun h => f10 (upd_ne h (by decide))), (fun h => f11 (upd_ne h (by decide))), (fun h => f12 (upd_ne h (by decide)))⟩, j, hj, ⟨((upd_no (by decide)).trans dd13), ((upd_no (by decide)).trans dd14), ((upd_no (by decide)).trans dd15), ((upd_no (by decide)).trans dd16)⟩, ⟨p0, p1, p2, p3, p4⟩⟩
                · rintro d ⟨x54, x55, x56, x57, x58, x59, x60, x61, x62, x63, x64, x65, x66, x67, x68, x69⟩ w' hI hd hdp KQ hK
                  dsimp only at hI
                  obtain ⟨hS, ⟨f0, f1, f2, f3, f4, f5, f6, f7, f8, f9, f10, f11, f12⟩, j, hj, ⟨dd13, dd14, dd15, dd16⟩, ⟨p0, p1, p2, p3, p4⟩⟩ := hI
                  obtain rfl := f0 (hdp 0 (by decide +kernel))
                  have HF : Hid _ := And.intro hS (And.intro (And.intro f0 (And.intro f1 (And.intro f2 (And.intro f3 (And.intro f4 (And.intro f5 (And.intro f6 (And.intro f7 (And.intro f8 (And.intro f9 (And.intro f10 (And.intro f11 f12)))))))))))) (And.intro hj (And.intro (And.intro dd13 (And.intro dd14 (And.intro dd15 dd16))) (And.intro p0 (And.intro p1 (And.intro p2 (And.intro p3 p4)))))))
                  clear hS f0 f1 f2 f3 f4 f5 f6 f7 f8 f9 f10 f11 f12 hj dd13 dd14 dd15 dd16 p0 p1 p2 p3 p4 hdp hd
                  refine Opn.mk ?_
                  dsimp only
                  go_simp
                  obtain ⟨hS, ⟨f0, f1, f2, f3, f4, f5, f6, f7, f8, f9, f10, f11, f12⟩, hj, ⟨dd13, dd14, dd15, dd16⟩, ⟨p0, p1, p2, p3, p4⟩⟩ := HF.out
                  exact hK.out (.pointer (some ⟨t, 0, none⟩), .pointer (some ⟨t, 0, none⟩), x56, x57, x58, x59, x60, x61, x62, x63, x64, x65, x66, x67, x68, x69) _ ⟨hS, ⟨(fun _ => rfl), (fun _ => rfl), (fun h => f2 (upd_ne h (by decide))), (fun h => f3 (upd_ne h (by decide))), (fun h => f4 (upd_ne h (by decide))), (fun h => f5 (upd_ne h (by decide))), (fun h => f6 (upd_ne h (by decide))), (fun h => f7 (upd_ne h (by decide))), (fun h => f8 (upd_ne h (by decide))), (fun h => f9 (upd_ne h (by decide))), (fun h => f10 (upd_ne h (by decide))), (fun h => f11 (upd_ne h (by decide))), (fun h => f12 (upd_ne h (by decide)))⟩, j, hj, ⟨((upd_no (by decide)).trans dd13), ((upd_no (by decide)).trans dd14), ((upd_no (by decide)).trans dd15), ((upd_no (by decide)).trans dd16)⟩, ⟨p0, p1, p2, p3, p4⟩⟩
                · rintro d ⟨x54, x55, x56, x57, x58, x59, x60, x61, x62, x63, x64, x65, x66, x67, x68, x69⟩ w' hI hd hdp KQ hK
                  dsimp only at hI
                  obtain ⟨hS, ⟨f0, f1, f2, f3, f4, f5, f6, f7, f8, f9, f10, f11, f12⟩, j, hj, ⟨dd13, dd14, dd15, dd16⟩, ⟨p0, p1, p2, p3, p4⟩⟩ := hI
                  obtain rfl := f1 (hdp 1 (by decide +kernel))
                  have HF : Hid _ := And.intro hS (And.intro (And.intro f0 (And.intro f1 (And.intro f2 (And.intro f3 (And.intro f4 (And.intro f5 (And.intro f6 (And.intro f7 (And.intro f8 (And.intro f9 (And.intro f10 (And.intro f11 f12)))))))))))) (And.intro hj (And.intro (And.intro dd13 (And.intro dd14 (And.intro dd15 dd16))) (And.intro p0 (And.intro p1 (And.intro p2 (And.intro p3 p4)))))))
                  clear hS f0 f1 f2 f3 f4 f5 f6 f7 f8 f9 f10 f11 f12 hj dd13 dd14 dd15 dd16 p0 p1 p2 p3 p4 hdp hd
                  refine Opn.mk ?_
                  dsimp only
                  go_simp
                  obtain ⟨hS, ⟨f0, f1, f2, f3, f4, f5, f6, f7, f8, f9, f10, f11, f12⟩, hj, ⟨dd13, dd14, dd15, dd16⟩, ⟨p0, p1, p2, p3, p4⟩⟩ := HF.out
                  exact hK.out (x54, .pointer (some ⟨t, 0, none⟩), .pointer (some ⟨t, 0, none⟩), x57, x58, x59, x60, x61, x62, x63, x64, x65, x66, x67, x68, x69) _ ⟨hS, ⟨(fun h => f0 (upd_ne h (by decide))), (fun _ => rfl), (fun _ => rfl), (fun h => f3 (upd_ne h (by decide))), (fun h => f4 (upd_ne h (by decide))), (fun h => f5 (upd_ne h (by decide))), (fun h => f6 (upd_ne h (by decide))), (fun h => f7 (upd_ne h (by decide))), (fun h => f8 (upd_ne h (by decide))), (fun h => f9 (upd_ne h (by decide))), (fun h => f10 (upd_ne h (by decide))), (fun h => f11 (upd_ne h (by decide))), (fun h => f12 (upd_ne h (by decide)))⟩, j, hj, ⟨((upd_no (by decide)).trans dd13), ((upd_no (by decide)).trans dd14), ((upd_no (by decide)).trans dd15), ((upd_no (by decide)).trans dd16)⟩, ⟨p0, p1, p2, p3, p4⟩⟩
                · rintro d ⟨x54, x55, x56, x57, x58, x59, x60, x61, x62, x63, x64, x65, x66, x67, x68, x69⟩ w' hI hd hdp KQ hK
                  dsimp only at hI
                  obtain ⟨hS, ⟨f0, f1, f2, f3, f4, f5, f6, f7, f8, f9, f10, f11, f12⟩, j, hj, ⟨dd13, dd14, dd15, dd16⟩, ⟨p0, p1, p2, p3, p4⟩⟩ := hI
                  obtain rfl := f2 (hdp 2 (by decide +kernel))
                  have cc := HQD.out.1 w' hS
                  have HF : Hid _ := And.intro hS (And.intro (And.intro f0 (And.intro f1 (And.intro f2 (And.intro f3 (And.intro f4 (And.intro f5 (And.intro f6 (And.intro f7 (And.intro f8 (And.intro f9 (And.intro f10 (And.intro f11 f12)))))))))))) (And.intro hj (And.intro (And.intro dd13 (And.intro dd14 (And.intro dd15 dd16))) (And.intro p0 (And.intro p1 (And.intro p2 (And.intro p3 p4)))))))
                  clear hS f0 f1 f2 f3 f4 f5 f6 f7 f8 f9 f10 f11 f12 hj dd13 dd14 dd15 dd16 p0 p1 p2 p3 p4 hdp hd
                  refine Opn.mk ?_
                  dsimp only
                  go_simp
                  obtain ⟨hS, ⟨f0, f1, f2, f3, f4, f5, f6, f7, f8, f9, f10, f11, f12⟩, hj, ⟨dd13, dd14, dd15, dd16⟩, ⟨p0, p1, p2, p3, p4⟩⟩ := HF.out
                  exact hK.out (x54, x55, .pointer (some ⟨t, 0, none⟩), .map (some m), x58, x59, x60, x61, x62, x63, x64, x65, x66, x67, x68, x69) _ ⟨hS, ⟨(fun h => f0 (upd_ne h (by decide))), (fun h => f1 (upd_ne h (by decide))), (fun _ => rfl), (fun _ => rfl), (fun h => f4 (upd_ne h (by decide))), (fun h => f5 (upd_ne h (by decide))), (fun h => f6 (upd_ne h (by decide))), (fun h => f7 (upd_ne h (by decide))), (fun h => f8 (upd_ne h (by decide))), (fun h => f9 (upd_ne h (by decide))), (fun h => f10 (upd_ne h (by decide))), (fun h => f11 (upd_ne h (by decide))), (fun h => f12 (upd_ne h (by decide)))⟩, j, hj, ⟨((upd_no (by decide)).trans dd13), ((upd_no (by decide)).trans dd14), ((upd_no (by decide)).trans dd15), ((upd_no (by decide)).trans dd16)⟩, ⟨p0, p1, p2, p3, p4⟩⟩
                · rintro d ⟨x54, x55, x56, x57, x58, x59, x60, x61, x62, x63, x64, x65, x66, x67, x68, x69⟩ w' hI hd hdp KQ hK
                  dsimp only at hI
                  obtain ⟨hS, ⟨f0, f1, f2, f3, f4, f5, f6, f7, f8, f9, f10, f11, f12⟩, j, hj, ⟨dd13, dd14, dd15, dd16⟩, ⟨p0, p1, p2, p3, p4⟩⟩ := hI
                  obtain ⟨cs0, cs1, cs2, cs3, cs4⟩ := HQD.out.2.1 w' hS
                  have HF : Hid _ := And.intro hS (And.intro (And.intro f0 (And.intro f1 (And.intro f2 (And.intro f3 (And.intro f4 (And.intro f5 (And.intro f6 (And.intro f7 (And.intro f8 (And.intro f9 (And.intro f10 (And.intro f11 f12)))))))))))) (And.intro hj (And.intro (And.intro dd13 (And.intro dd14 (And.intro dd15 dd16))) (And.intro p0 (And.intro p1 (And.intro p2 (And.intro p3 p4)))))))
                  clear hS f0 f1 f2 f3 f4 f5 f6 f7 f8 f9 f10 f11 f12 hj dd13 dd14 dd15 dd16 p0 p1 p2 p3 p4 hdp hd
                  refine Opn.mk ?_
                  dsimp only
                  go_simp
                  obtain ⟨hS, ⟨f0, f1, f2, f3, f4, f5, f6, f7, f8, f9, f10, f11, f12⟩, hj, ⟨dd13, dd14, dd15, dd16⟩, ⟨p0, p1, p2, p3, p4⟩⟩ := HF.out
                  exact hK.out (x54, x55, x56, x57, .agg #[.int .i64 k1, .int .i64 k2, .int .i64 k3, .int .i64 gp, .int .i64 gc], x59, x60, x61, x62, x63, x64, x65, x66, x67, x68, x69) _ ⟨hS, ⟨(fun h => f0 (upd_ne h (by decide))), (fun h => f1 (upd_ne h (by decide))), (fun h => f2 (upd_ne h (by decide))), (fun h => f3 (upd_ne h (by decide))), (fun _ => rfl), (fun h => f5 (upd_ne h (by decide))), (fun h => f6 (upd_ne h (by decide))), (fun h => f7 (upd_ne h (by decide))), (fun h => f8 (upd_ne h (by decide))), (fun h => f9 (upd_ne h (by decide))), (fun h => f10 (upd_ne h (by decide))), (fun h => f11 (upd_ne h (by decide))), (fun h => f12 (upd_ne h (by decide)))⟩, j, hj, ⟨((upd_no (by decide)).trans dd13), ((upd_no (by decide)).trans dd14), ((upd_no (by decide)).trans dd15), ((upd_no (by decide)).trans dd16)⟩, ⟨p0, p1, p2, p3, p4⟩⟩
                · rintro d ⟨x54, x55, x56, x57, x58, x59, x60, x61, x62, x63, x64, x65, x66, x67, x68, x69⟩ w' hI hd hdp KQ hK
                  dsimp only at hI
                  obtain ⟨hS, ⟨f0, f1, f2, f3, f4, f5, f6, f7, f8, f9, f10, f11, f12⟩, j, hj, ⟨dd13, dd14, dd15, dd16⟩, ⟨p0, p1, p2, p3, p4⟩⟩ := hI
                  obtain rfl := f4 (hdp 4 (by decide +kernel))
                  have kk := keyOf_any w' k1 k2 k3 gp gc
                  unfold kv at kk
                  simp only at kk
                  have HF : Hid _ := And.intro hS (And.intro (And.intro f0 (And.intro f1 (And.intro f2 (And.intro f3 (And.intro f4 (And.intro f5 (And.intro f6 (And.intro f7 (And.intro f8 (And.intro f9 (And.intro f10 (And.intro f11 f12)))))))))))) (And.intro hj (And.intro (And.intro dd13 (And.intro dd14 (And.intro dd15 dd16))) (And.intro p0 (And.intro p1 (And.intro p2 (And.intro p3 p4)))))))
                  clear hS f0 f1 f2 f3 f4 f5 f6 f7 f8 f9 f10 f11 f12 hj dd13 dd14 dd15 dd16 p0 p1 p2 p3 p4 hdp hd
                  refine Opn.mk ?_
                  dsimp only
                  go_simp
                  go_wp2_with (first | (go_at_call 30; with_reducible refine kk.mono ?_; rintro e5 w5 ⟨rfl, g5⟩))
                  obtain ⟨hS, ⟨f0, f1, f2, f3, f4, f5, f6, f7, f8, f9, f10, f11, f12⟩, hj, ⟨dd13, dd14, dd15, dd16⟩, ⟨p0, p1, p2, p3, p4⟩⟩ := HF.out
                  refine hK.out (x54, x55, x56, x57, .agg #[.int .i64 k1, .int .i64 k2, .int .i64 k3, .int .i64 gp, .int .i64 gc], .agg #[.int .i64 k1, .int .i64 k2, .int .i64 k3], x60, x61, x62, x63, x64, x65, x66, x67, x68, x69) _ ⟨?sg, ⟨(fun h => f0 (upd_ne h (by decide))), (fun h => f1 (upd_ne h (by decide))), (fun h => f2 (upd_ne h (by decide))), (fun h => f3 (upd_ne h (by decide))), (fun _ => rfl), (fun _ => rfl), (fun h => f6 (upd_ne h (by decide))), (fun h => f7 (upd_ne h (by decide))), (fun h => f8 (upd_ne h (by decide))), (fun h => f9 (upd_ne h (by decide))), (fun h => f10 (upd_ne h (by decide))), (fun h => f11 (upd_ne h (by decide))), (fun h => f12 (upd_ne h (by decide)))⟩, j, hj, ⟨((upd_no (by decide)).trans dd13), ((upd_no (by decide)).trans dd14), ((upd_no (by decide)).trans dd15), ((upd_no (by decide)).trans dd16)⟩, ⟨(fun hj0 => ?u0), (fun hj0 => ?u1), (fun hj0 => ?u2), (fun hj0 => ?u3), (fun hj0 => ?u4)⟩⟩
                  case sg => exact hS.trans (Fr.of_below g5.below) fun _ _ h => h
                  case u0 =>
                    have s := p0 hj0
                    exact ⟨grown_trans s.1 (grown_of_below g5.below _), own_below s.2 g5.below⟩
                  case u1 =>
                    have s := p1 hj0
                    obtain ⟨sg0, so, g, ea, hx, hg⟩ := s
                    exact ⟨grown_trans sg0 (grown_of_below g5.below _), own_below so g5.below, g, ea, hx.up g5.below, hg⟩
                  case u2 =>
                    have s := p2 hj0
                    obtain ⟨va, vn, vc, ea, sg0, sg1, sg2⟩ := s
                    exact ⟨va, vn, vc, ea, grown_trans sg0 (grown_of_below g5.below _), sg1, own_below sg2 g5.below⟩
                  case u3 =>
                    have s := p3 hj0
                    obtain ⟨va, vn, vc, ea, sg0, sg1, sg2⟩ := s
                    exact ⟨va, vn, vc, ea, grown_trans sg0 (grown_of_below g5.below _), sg1, own_below sg2 g5.below⟩
                  case u4 =>
                    have s := p4 hj0
                    obtain ⟨v', q⟩ := s
                    exact ⟨v', q.grow g5.below⟩
                · rintro d ⟨x54, x55, x56, x57, x58, x59, x60, x61, x62, x63, x64, x65, x66, x67, x68, x69⟩ w' hI hd hdp KQ hK
                  dsimp only at hI
                  obtain ⟨hS, ⟨f0, f1, f2, f3, f4, f5, f6, f7, f8, f9, f10, f11, f12⟩, j, hj, ⟨dd13, dd14, dd15, dd16⟩, ⟨p0, p1, p2, p3, p4⟩⟩ := hI
                  have HF : Hid _ := And.intro hS (And.intro (And.intro f0 (And.intro f1 (And.intro f2 (And.intro f3 (And.intro f4 (And.intro f5 (And.intro f6 (And.intro f7 (And.intro f8 (And.intro f9 (And.intro f10 (And.intro f11 f12)))))))))))) (And.intro hj (And.intro (And.intro dd13 (And.intro dd14 (And.intro dd15 dd16))) (And.intro p0 (And.intro p1 (And.intro p2 (And.intro p3 p4)))))))
                  clear hS f0 f1 f2 f3 f4 f5 f6 f7 f8 f9 f10 f11 f12 hj dd13 dd14 dd15 dd16 p0 p1 p2 p3 p4 hdp hd
                  refine Opn.mk ?_
                  dsimp only
                  go_simp
                  obtain ⟨hS, ⟨f0, f1, f2, f3, f4, f5, f6, f7, f8, f9, f10, f11, f12⟩, hj, ⟨dd13, dd14, dd15, dd16⟩, ⟨p0, p1, p2, p3, p4⟩⟩ := HF.out
                  exact hK.out (x54, x55, x56, x57, x58, x59, .pointer (some ⟨b3, 4, none⟩), x61, x62, x63, x64, x65, x66, x67, x68, x69) _ ⟨hS, ⟨(fun h => f0 (upd_ne h (by decide))), (fun h => f1 (upd_ne h (by decide))), (fun h => f2 (upd_ne h (by decide))), (fun h => f3 (upd_ne h (by decide))), (fun h => f4 (upd_ne h (by decide))), (fun h => f5 (upd_ne h (by decide))), (fun _ => rfl), (fun h => f7 (upd_ne h (by decide))), (fun h => f8 (upd_ne h (by decide))), (fun h => f9 (upd_ne h (by decide))), (fun h => f10 (upd_ne h (by decide))), (fun h => f11 (upd_ne h (by decide))), (fun h => f12 (upd_ne h (by decide)))⟩, j, hj, ⟨((upd_no (by decide)).trans dd13), ((upd_no (by decide)).trans dd14), ((upd_no (by decide)).trans dd15), ((upd_no (by decide)).trans dd16)⟩, ⟨p0, p1, p2, p3, p4⟩⟩
                · rintro d ⟨x54, x55, x56, x57, x58, x59, x60, x61, x62, x63, x64, x65, x66, x67, x68, x69⟩ w' hI hd hdp KQ hK
                  dsimp only at hI
                  obtain ⟨hS, ⟨f0, f1, f2, f3, f4, f5, f6, f7, f8, f9, f10, f11, f12⟩, j, hj, ⟨dd13, dd14, dd15, dd16⟩, ⟨p0, p1, p2, p3, p4⟩⟩ := hI
                  obtain rfl := f6 (hdp 6 (by decide +kernel))
                  obtain ⟨cs0, cs1, cs2, cs3, cs4⟩ := HQD.out.2.1 w' hS
                  have HF : Hid _ := And.intro hS (And.intro (And.intro f0 (And.intro f1 (And.intro f2 (And.intro f3 (And.intro f4 (And.intro f5 (And.intro f6 (And.intro f7 (And.intro f8 (And.intro f9 (And.intro f10 (And.intro f11 f12)))))))))))) (And.intro hj (And.intro (And.intro dd13 (And.intro dd14 (And.intro dd15 dd16))) (And.intro p0 (And.intro p1 (And.intro p2 (And.intro p3 p4)))))))
                  clear hS f0 f1 f2 f3 f4 f5 f6 f7 f8 f9 f10 f11 f12 hj dd13 dd14 dd15 dd16 p0 p1 p2 p3 p4 hdp hd
                  refine Opn.mk ?_
                  dsimp only
                  go_simp
                  obtain ⟨hS, ⟨f0, f1, f2, f3, f4, f5, f6, f7, f8, f9, f10, f11, f12⟩, hj, ⟨dd13, dd14, dd15, dd16⟩, ⟨p0, p1, p2, p3, p4⟩⟩ := HF.out
                  exact hK.out (x54, x55, x56, x57, x58, x59, .pointer (some ⟨b3, 4, none⟩), .int .i64 gc, x62, x63, x64, x65, x66, x67, x68, x69) _ ⟨hS, ⟨(fun h => f0 (upd_ne h (by decide))), (fun h => f1 (upd_ne h (by decide))), (fun h => f2 (upd_ne h (by decide))), (fun h => f3 (upd_ne h (by decide))), (fun h => f4 (upd_ne h (by decide))), (fun h => f5 (upd_ne h (by decide))), (fun _ => rfl), (fun _ => rfl), (fun h => f8 (upd_ne h (by decide))), (fun h => f9 (upd_ne h (by decide))), (fun h => f10 (upd_ne h (by decide))), (fun h => f11 (upd_ne h (by decide))), (fun h => f12 (upd_ne h (by decide)))⟩, j, hj, ⟨((upd_no (by decide)).trans dd13), ((upd_no (by decide)).trans dd14), ((upd_no (by decide)).trans dd15), ((upd_no (by decide)).trans dd16)⟩, ⟨p0, p1, p2, p3, p4⟩⟩
                · rintro d ⟨x54, x55, x56, x57, x58, x59, x60, x61, x62, x63, x64, x65, x66, x67, x68, x69⟩ w' hI hd hdp KQ hK
                  dsimp only at hI
                  obtain ⟨hS, ⟨f0, f1, f2, f3, f4, f5, f6, f7, f8, f9, f10, f11, f12⟩, j, hj, ⟨dd13, dd14, dd15, dd16⟩, ⟨p0, p1, p2, p3, p4⟩⟩ := hI
                  have HF : Hid _ := And.intro hS (And.intro (And.intro f0 (And.intro f1 (And.intro f2 (And.intro f3 (And.intro f4 (And.intro f5 (And.intro f6 (And.intro f7 (And.intro f8 (And.intro f9 (And.intro f10 (And.intro f11 f12)))))))))))) (And.intro hj (And.intro (And.intro dd13 (And.intro dd14 (And.intro dd15 dd16))) (And.intro p0 (And.intro p1 (And.intro p2 (And.intro p3 p4)))))))
                  clear hS f0 f1 f2 f3 f4 f5 f6 f7 f8 f9 f10 f11 f12 hj dd13 dd14 dd15 dd16 p0 p1 p2 p3 p4 hdp hd
                  refine Opn.mk ?_
                  dsimp only
                  go_simp
                  obtain ⟨hS, ⟨f0, f1, f2, f3, f4, f5, f6, f7, f8, f9, f10, f11, f12⟩, hj, ⟨dd13, dd14, dd15, dd16⟩, ⟨p0, p1, p2, p3, p4⟩⟩ := HF.out
                  exact hK.out (x54, x55, x56, x57, x58, x59, x60, x61, .pointer (some ⟨gb, 1, none⟩), x63, x64, x65, x66, x67, x68, x69) _ ⟨hS, ⟨(fun h => f0 (upd_ne h (by decide))), (fun h => f1 (upd_ne h (by decide))), (fun h => f2 (upd_ne h (by decide))), (fun h => f3 (upd_ne h (by decide))), (fun h => f4 (upd_ne h (by decide))), (fun h => f5 (upd_ne h (by decide))), (fun h => f6 (upd_ne h (by decide))), (fun h => f7 (upd_ne h (by decide))), (fun _ => rfl), (fun h => f9 (upd_ne h (by decide))), (fun h => f10 (upd_ne h (by decide))), (fun h => f11 (upd_ne h (by decide))), (fun h => f12 (upd_ne h (by decide)))⟩, j, hj, ⟨((upd_no (by decide)).trans dd13), ((upd_no (by decide)).trans dd14), ((upd_no (by decide)).trans dd15), ((upd_no (by decide)).trans dd16)⟩, ⟨p0, p1, p2, p3, p4⟩⟩
                · rintro d ⟨x54, x55, x56, x57, x58, x59, x60, x61, x62, x63, x64, x65, x66, x67, x68, x69⟩ w' hI hd hdp KQ hK
                  dsimp only at hI
                  obtain ⟨hS, ⟨f0, f1, f2, f3, f4, f5, f6, f7, f8, f9, f10, f11, f12⟩, j, hj, ⟨dd13, dd14, dd15, dd16⟩, ⟨p0, p1, p2, p3, p4⟩⟩ := hI
                  obtain rfl := f8 (hdp 8 (by decide +kernel))
                  obtain ⟨ct0, ct1⟩ := HQD.out.2.2 w' hS
                  have HF : Hid _ := And.intro hS (And.intro (And.intro f0 (And.intro f1 (And.intro f2 (And.intro f3 (And.intro f4 (And.intro f5 (And.intro f6 (And.intro f7 (And.intro f8 (And.intro f9 (And.intro f10 (And.intro f11 f12)))))))))))) (And.intro hj (And.intro (And.intro dd13 (And.intro dd14 (And.intro dd15 dd16))) (And.intro p0 (And.intro p1 (And.intro p2 (And.intro p3 p4)))))))
                  clear hS f0 f1 f2 f3 f4 f5 f6 f7 f8 f9 f10 f11 f12 hj dd13 dd14 dd15 dd16 p0 p1 p2 p3 p4 hdp hd
                  refine Opn.mk ?_
                  dsimp only
                  go_simp
                  obtain ⟨hS, ⟨f0, f1, f2, f3, f4, f5, f6, f7, f8, f9, f10, f11, f12⟩, hj, ⟨dd13, dd14, dd15, dd16⟩, ⟨p0, p1, p2, p3, p4⟩⟩ := HF.out
                  exact hK.out (x54, x55, x56, x57, x58, x59, x60, x61, .pointer (some ⟨gb, 1, none⟩), (Value.slice pa np pc), x64, x65, x66, x67, x68, x69) _ ⟨hS, ⟨(fun h => f0 (upd_ne h (by decide))), (fun h => f1 (upd_ne h (by decide))), (fun h => f2 (upd_ne h (by decide))), (fun h => f3 (upd_ne h (by decide))), (fun h => f4 (upd_ne h (by decide))), (fun h => f5 (upd_ne h (by decide))), (fun h => f6 (upd_ne h (by decide))), (fun h => f7 (upd_ne h (by decide))), (fun _ => rfl), (fun _ => rfl), (fun h => f10 (upd_ne h (by decide))), (fun h => f11 (upd_ne h (by decide))), (fun h => f12 (upd_ne h (by decide)))⟩, j, hj, ⟨((upd_no (by decide)).trans dd13), ((upd_no (by decide)).trans dd14), ((upd_no (by decide)).trans dd15), ((upd_no (by decide)).trans dd16)⟩, ⟨p0, p1, p2, p3, p4⟩⟩
                · rintro d ⟨x54, x55, x56, x57, x58, x59, x60, x61, x62, x63, x64, x65, x66, x67, x68, x69⟩ w' hI hd hdp KQ hK
                  dsimp only at hI
                  obtain ⟨hS, ⟨f0, f1, f2, f3, f4, f5, f6, f7, f8, f9, f10, f11, f12⟩, j, hj, ⟨dd13, dd14, dd15, dd16⟩, ⟨p0, p1, p2, p3, p4⟩⟩ := hI
                  have HF : Hid _ := And.intro hS (And.intro (And.intro f0 (And.intro f1 (And.intro f2 (And.intro f3 (And.intro f4 (And.intro f5 (And.intro f6 (And.intro f7 (And.intro f8 (And.intro f9 (And.intro f10 (And.intro f11 f12)))))))))))) (And.intro hj (And.intro (And.intro dd13 (And.intro dd14 (And.intro dd15 dd16))) (And.intro p0 (And.intro p1 (And.intro p2 (And.intro p3 p4)))))))
                  clear hS f0 f1 f2 f3 f4 f5 f6 f7 f8 f9 f10 f11 f12 hj dd13 dd14 dd15 dd16 p0 p1 p2 p3 p4 hdp hd
                  refine Opn.mk ?_
                  dsimp only
                  go_simp
                  obtain ⟨hS, ⟨f0, f1, f2, f3, f4, f5, f6, f7, f8, f9, f10, f11, f12⟩, hj, ⟨dd13, dd14, dd15, dd16⟩, ⟨p0, p1, p2, p3, p4⟩⟩ := HF.out
                  exact hK.out (x54, x55, x56, x57, x58, x59, x60, x61, x62, x63, .int .i64 (at' : Nat), x65, x66, x67, x68, x69) _ ⟨hS, ⟨(fun h => f0 (upd_ne h (by decide))), (fun h => f1 (upd_ne h (by decide))), (fun h => f2 (upd_ne h (by decide))), (fun h => f3 (upd_ne h (by decide))), (fun h => f4 (upd_ne h (by decide))), (fun h => f5 (upd_ne h (by decide))), (fun h => f6 (upd_ne h (by decide))), (fun h => f7 (upd_ne h (by decide))), (fun h => f8 (upd_ne h (by decide))), (fun h => f9 (upd_ne h (by decide))), (fun _ => rfl), (fun h => f11 (upd_ne h (by decide))), (fun h => f12 (upd_ne h (by decide)))⟩, j, hj, ⟨((upd_no (by decide)).trans dd13), ((upd_no (by decide)).trans dd14), ((upd_no (by decide)).trans dd15), ((upd_no (by decide)).trans dd16)⟩, ⟨p0, p1, p2, p3, p4⟩⟩
                · rintro d ⟨x54, x55, x56, x57, x58, x59, x60, x61, x62, x63, x64, x65, x66, x67, x68, x69⟩ w' hI hd hdp KQ hK
                  dsimp only at hI
                  obtain ⟨hS, ⟨f0, f1, f2, f3, f4, f5, f6, f7, f8, f9, f10, f11, f12⟩, j, hj, ⟨dd13, dd14, dd15, dd16⟩, ⟨p0, p1, p2, p3, p4⟩⟩ := hI
                  have HF : Hid _ := And.intro hS (And.intro (And.intro f0 (And.intro f1 (And.intro f2 (And.intro f3 (And.intro f4 (And.intro f5 (And.intro f6 (And.intro f7 (And.intro f8 (And.intro f9 (And.intro f10 (And.intro f11 f12)))))))))))) (And.intro hj (And.intro (And.intro dd13 (And.intro dd14 (And.intro dd15 dd16))) (And.intro p0 (And.intro p1 (And.intro p2 (And.intro p3 p4)))))))
                  clear hS f0 f1 f2 f3 f4 f5 f6 f7 f8 f9 f10 f11 f12 hj dd13 dd14 dd15 dd16 p0 p1 p2 p3 p4 hdp hd
                  refine Opn.mk ?_
                  dsimp only
                  go_simp
                  obtain ⟨hS, ⟨f0, f1, f2, f3, f4, f5, f6, f7, f8, f9, f10, f11, f12⟩, hj, ⟨dd13, dd14, dd15, dd16⟩, ⟨p0, p1, p2, p3, p4⟩⟩ := HF.out
                  exact hK.out (x54, x55, x56, x57, x58, x59, x60, x61, x62, x63, x64, .pointer (some ⟨b3, 3, none⟩), x66, x67, x68, x69) _ ⟨hS, ⟨(fun h => f0 (upd_ne h (by decide))), (fun h => f1 (upd_ne h (by decide))), (fun h => f2 (upd_ne h (by decide))), (fun h => f3 (upd_ne h (by decide))), (fun h => f4 (upd_ne h (by decide))), (fun h => f5 (upd_ne h (by decide))), (fun h => f6 (upd_ne h (by decide))), (fun h => f7 (upd_ne h (by decide))), (fun h => f8 (upd_ne h (by decide))), (fun h => f9 (upd_ne h (by decide))), (fun h => f10 (upd_ne h (by decide))), (fun _ => rfl), (fun h => f12 (upd_ne h (by decide)))⟩, j, hj, ⟨((upd_no (by decide)).trans dd13), ((upd_no (by decide)).trans dd14), ((upd_no (by decide)).trans dd15), ((upd_no (by decide)).trans dd16)⟩, ⟨p0, p1, p2, p3, p4⟩⟩
                · rintro d ⟨x54, x55, x56, x57, x58, x59, x60, x61, x62, x63, x64, x65, x66, x67, x68, x69⟩ w' hI hd hdp KQ hK
                  dsimp only at hI
                  obtain ⟨hS, ⟨f0, f1, f2, f3, f4, f5, f6, f7, f8, f9, f10, f11, f12⟩, j, hj, ⟨dd13, dd14, dd15, dd16⟩, ⟨p0, p1, p2, p3, p4⟩⟩ := hI
                  obtain rfl := f11 (hdp 11 (by decide +kernel))
                  obtain ⟨cs0, cs1, cs2, cs3, cs4⟩ := HQD.out.2.1 w' hS
                  have HF : Hid _ := And.intro hS (And.intro (And.intro f0 (And.intro f1 (And.intro f2 (And.intro f3 (And.intro f4 (And.intro f5 (And.intro f6 (And.intro f7 (And.intro f8 (And.intro f9 (And.intro f10 (And.intro f11 f12)))))))))))) (And.intro hj (And.intro (And.intro dd13 (And.intro dd14 (And.intro dd15 dd16))) (And.intro p0 (And.intro p1 (And.intro p2 (And.intro p3 p4)))))))
                  clear hS f0 f1 f2 f3 f4 f5 f6 f7 f8 f9 f10 f11 f12 hj dd13 dd14 dd15 dd16 p0 p1 p2 p3 p4 hdp hd
                  refine Opn.mk ?_
                  dsimp only
                  go_simp
                  obtain ⟨hS, ⟨f0, f1, f2, f3, f4, f5, f6, f7, f8, f9, f10, f11, f12⟩, hj, ⟨dd13, dd14, dd15, dd16⟩, ⟨p0, p1, p2, p3, p4⟩⟩ := HF.out
                  exact hK.out (x54, x55, x56, x57, x58, x59, x60, x61, x62, x63, x64, .pointer (some ⟨b3, 3, none⟩), .int .i64 gp, x67, x68, x69) _ ⟨hS, ⟨(fun h => f0 (upd_ne h (by decide))), (fun h => f1 (upd_ne h (by decide))), (fun h => f2 (upd_ne h (by decide))), (fun h => f3 (upd_ne h (by decide))), (fun h => f4 (upd_ne h (by decide))), (fun h => f5 (upd_ne h (by decide))), (fun h => f6 (upd_ne h (by decide))), (fun h => f7 (upd_ne h (by decide))), (fun h => f8 (upd_ne h (by decide))), (fun h => f9 (upd_ne h (by decide))), (fun h => f10 (upd_ne h (by decide))), (fun _ => rfl), (fun _ => rfl)⟩, j, hj, ⟨((upd_no (by decide)).trans dd13), ((upd_no (by decide)).trans dd14), ((upd_no (by decide)).trans dd15), ((upd_no (by decide)).trans dd16)⟩, ⟨p0, p1, p2, p3, p4⟩⟩
                · rintro d ⟨x54, x55, x56, x57, x58, x59, x60, x61, x62, x63, x64, x65, x66, x67, x68, x69⟩ w' hI hd hdp KQ hK
                  dsimp only at hI
                  obtain ⟨hS, ⟨f0, f1, f2, f3, f4, f5, f6, f7, f8, f9, f10, f11, f12⟩, j, hj, ⟨dd13, dd14, dd15, dd16⟩, ⟨p0, p1, p2, p3, p4⟩⟩ := hI
                  obtain rfl := f12 (hdp 12 (by decide +kernel))
                  obtain rfl := ph_zero dd13 hd
                  have s := p0 rfl
                  clear p0 p1 p2 p3 p4 hj
                  have HG : Hid _ := And.intro hS s
                  clear hS s
                  have HF : Hid _ := And.intro (And.intro f0 (And.intro f1 (And.intro f2 (And.intro f3 (And.intro f4 (And.intro f5 (And.intro f6 (And.intro f7 (And.intro f8 (And.intro f9 (And.intro f10 (And.intro f11 f12)))))))))))) (And.intro dd13 (And.intro dd14 (And.intro dd15 dd16)))
                  clear f0 f1 f2 f3 f4 f5 f6 f7 f8 f9 f10 f11 f12 dd13 dd14 dd15 dd16 hdp hd
                  refine Opn.mk ?_
                  dsimp only
                  go_simp
                  obtain ⟨hS, s⟩ := HG.out
                  obtain ⟨⟨f0, f1, f2, f3, f4, f5, f6, f7, f8, f9, f10, f11, f12⟩, ⟨dd13, dd14, dd15, dd16⟩⟩ := HF.out
                  refine hK.out (x54, x55, x56, x57, x58, x59, x60, x61, x62, x63, x64, x65, .int .i64 gp, .slice (some ⟨w'.heap.size, 0, none⟩) 1 1, x68, x69) _ ⟨?sg, ⟨(fun h => f0 (upd_ne h (by decide))), (fun h => f1 (upd_ne h (by decide))), (fun h => f2 (upd_ne h (by decide))), (fun h => f3 (upd_ne h (by decide))), (fun h => f4 (upd_ne h (by decide))), (fun h => f5 (upd_ne h (by decide))), (fun h => f6 (upd_ne h (by decide))), (fun h => f7 (upd_ne h (by decide))), (fun h => f8 (upd_ne h (by decide))), (fun h => f9 (upd_ne h (by decide))), (fun h => f10 (upd_ne h (by decide))), (fun h => f11 (upd_ne h (by decide))), (fun _ => rfl)⟩, 1, by decide, ⟨(by simp [upd]), ((upd_no (by decide)).trans (dd14.trans (by decide))), ((upd_no (by decide)).trans (dd15.trans (by decide))), ((upd_no (by decide)).trans (dd16.trans (by decide)))⟩, ⟨(fun h => absurd h (by decide)), (fun _ => ?new), (fun h => absurd h (by decide)), (fun h => absurd h (by decide)), (fun h => absurd h (by decide))⟩⟩
                  case sg => exact hS.trans (Fr.of_below ((Below.refl _ _).alloc (Nat.le_refl _) _)) fun _ _ h => h
                  case new =>
                    exact ⟨grown_trans s.1 (grown_alloc _ _ _), own_below s.2 ((Below.refl _ _).alloc (Nat.le_refl _) _), _, rfl, BxA.new _ _ _, s.1.size⟩
                · rintro d ⟨x54, x55, x56, x57, x58, x59, x60, x61, x62, x63, x64, x65, x66, x67, x68, x69⟩ w' hI hd hdp KQ hK
                  dsimp only at hI
                  obtain ⟨hS, ⟨f0, f1, f2, f3, f4, f5, f6, f7, f8, f9, f10, f11, f12⟩, j, hj, ⟨dd13, dd14, dd15, dd16⟩, ⟨p0, p1, p2, p3, p4⟩⟩ := hI
                  obtain rfl := f9 (hdp 9 (by decide +kernel))
                  obtain rfl := f10 (hdp 10 (by decide +kernel))
                  obtain rfl := ph_eq (k := 0) dd14 hd dd13 (hdp 13 (by decide +kernel))
                  have s := p1 rfl
                  clear p0 p1 p2 p3 p4 hj
                  obtain ⟨sg0, so, g, ea, hx, hg⟩ := s
                  subst ea
                  have hne0 : (Value.slice pa np pc).ownBlock ≠ some g := fun q => by have h1 := (own_lt HOV.out _ q).2; omega
                  have kk := ins_int w' (Value.slice pa np pc) ps at' gp g so HAT.out.1 hx hne0 HPL.out
                  clear so hne0
                  have HG : Hid _ := And.intro hS (And.intro sg0 hg)
                  clear hS sg0 hx hg
                  have HF : Hid _ := And.intro (And.intro f0 (And.intro f1 (And.intro f2 (And.intro f3 (And.intro f4 (And.intro f5 (And.intro f6 (And.intro f7 (And.intro f8 (And.intro f9 (And.intro f10 (And.intro f11 f12)))))))))))) (And.intro dd13 (And.intro dd14 (And.intro dd15 dd16)))
                  clear f0 f1 f2 f3 f4 f5 f6 f7 f8 f9 f10 f11 f12 dd13 dd14 dd15 dd16 hdp hd
                  refine Opn.mk ?_
                  dsimp only
                  go_simp
                  go_wp2_with (first | (go_at_call 32; with_reducible refine kk.mono ?_; rintro e5 w5 ⟨v', rfl, rn⟩))
                  obtain ⟨hS, sg0, hg⟩ := HG.out
                  obtain ⟨⟨f0, f1, f2, f3, f4, f5, f6, f7, f8, f9, f10, f11, f12⟩, ⟨dd13, dd14, dd15, dd16⟩⟩ := HF.out
                  refine hK.out (x54, x55, x56, x57, x58, x59, x60, x61, x62, (Value.slice pa np pc), .int .i64 (at' : Nat), x65, x66, .slice (some ⟨g, 0, none⟩) 1 1, v', x69) _ ⟨?sg, ⟨(fun h => f0 (upd_ne h (by decide))), (fun h => f1 (upd_ne h (by decide))), (fun h => f2 (upd_ne h (by decide))), (fun h => f3 (upd_ne h (by decide))), (fun h => f4 (upd_ne h (by decide))), (fun h => f5 (upd_ne h (by decide))), (fun h => f6 (upd_ne h (by decide))), (fun h => f7 (upd_ne h (by decide))), (fun h => f8 (upd_ne h (by decide))), (fun _ => rfl), (fun _ => rfl), (fun h => f11 (upd_ne h (by decide))), (fun h => f12 (upd_ne h (by decide)))⟩, 2, by decide, ⟨((upd_no (by decide)).trans (dd13.trans (by decide))), (by simp [upd]), ((upd_no (by decide)).trans (dd15.trans (by decide))), ((upd_no (by decide)).trans (dd16.trans (by decide)))⟩, ⟨(fun h => absurd h (by decide)), (fun h => absurd h (by decide)), (fun _ => ?new), (fun h => absurd h (by decide)), (fun h => absurd h (by decide))⟩⟩
                  case sg => exact hS.trans (Fr.of_grown (F := fun i => (Value.slice pa np pc).ownBlock = some i ∨ i = m) rn.grown fun j hj => .inl (.inl hj)) fun _ _ h => h
                  case new =>
                    obtain ⟨va, vc, ev'⟩ := own_sl rn.own
                    subst ev'
                    refine ⟨va, _, vc, rfl, grown_trans sg0 rn.grown, fun r hr => (rn.blk r hr).imp id fun h => Nat.le_trans sg0.size h, ?_⟩
                    unfold insP
                    rw [← HAT.out.2]
                    exact rn.own
                · rintro d ⟨x54, x55, x56, x57, x58, x59, x60, x61, x62, x63, x64, x65, x66, x67, x68, x69⟩ w' hI hd hdp KQ hK
                  dsimp only at hI
                  obtain ⟨hS, ⟨f0, f1, f2, f3, f4, f5, f6, f7, f8, f9, f10, f11, f12⟩, j, hj, ⟨dd13, dd14, dd15, dd16⟩, ⟨p0, p1, p2, p3, p4⟩⟩ := hI
                  obtain rfl := f7 (hdp 7 (by decide +kernel))
                  obtain rfl := ph_eq (k := 1) dd15 hd dd14 (hdp 14 (by decide +kernel))
                  have s := p2 rfl
                  clear p0 p1 p2 p3 p4 hj
                  obtain ⟨va, vn, vc, ea, s⟩ := s
                  subst ea
                  have HG : Hid _ := And.intro hS s
                  clear hS s
                  have HF : Hid _ := And.intro (And.intro f0 (And.intro f1 (And.intro f2 (And.intro f3 (And.intro f4 (And.intro f5 (And.intro f6 (And.intro f7 (And.intro f8 (And.intro f9 (And.intro f10 (And.intro f11 f12)))))))))))) (And.intro dd13 (And.intro dd14 (And.intro dd15 dd16)))
                  clear f0 f1 f2 f3 f4 f5 f6 f7 f8 f9 f10 f11 f12 dd13 dd14 dd15 dd16 hdp hd
                  refine Opn.mk ?_
                  dsimp only
                  go_simp
                  obtain ⟨hS, s⟩ := HG.out
                  obtain ⟨⟨f0, f1, f2, f3, f4, f5, f6, f7, f8, f9, f10, f11, f12⟩, ⟨dd13, dd14, dd15, dd16⟩⟩ := HF.out
                  refine hK.out (x54, x55, x56, x57, x58, x59, x60, .int .i64 gc, x62, x63, x64, x65, x66, x67, .slice va vn vc, .agg #[.int .i64 gc, .slice va vn vc]) _ ⟨?sg, ⟨(fun h => f0 (upd_ne h (by decide))), (fun h => f1 (upd_ne h (by decide))), (fun h => f2 (upd_ne h (by decide))), (fun h => f3 (upd_ne h (by decide))), (fun h => f4 (upd_ne h (by decide))), (fun h => f5 (upd_ne h (by decide))), (fun h => f6 (upd_ne h (by decide))), (fun _ => rfl), (fun h => f8 (upd_ne h (by decide))), (fun h => f9 (upd_ne h (by decide))), (fun h => f10 (upd_ne h (by decide))), (fun h => f11 (upd_ne h (by decide))), (fun h => f12 (upd_ne h (by decide)))⟩, 3, by decide, ⟨((upd_no (by decide)).trans (dd13.trans (by decide))), ((upd_no (by decide)).trans (dd14.trans (by decide))), (by simp [upd]), ((upd_no (by decide)).trans (dd16.trans (by decide)))⟩, ⟨(fun h => absurd h (by decide)), (fun h => absurd h (by decide)), (fun h => absurd h (by decide)), (fun _ => ?new), (fun h => absurd h (by decide))⟩⟩
                  case sg => exact hS
                  case new =>
                    exact ⟨va, vn, vc, rfl, s⟩
                · rintro d ⟨x54, x55, x56, x57, x58, x59, x60, x61, x62, x63, x64, x65, x66, x67, x68, x69⟩ w' hI hd hdp KQ hK
                  dsimp only at hI
                  obtain ⟨hS, ⟨f0, f1, f2, f3, f4, f5, f6, f7, f8, f9, f10, f11, f12⟩, j, hj, ⟨dd13, dd14, dd15, dd16⟩, ⟨p0, p1, p2, p3, p4⟩⟩ := hI
                  obtain rfl := f3 (hdp 3 (by decide +kernel))
                  obtain rfl := f5 (hdp 5 (by decide +kernel))
                  obtain rfl := ph_eq (k := 2) dd16 hd dd15 (hdp 15 (by decide +kernel))
                  have s := p3 rfl
                  clear p0 p1 p2 p3 p4 hj
                  obtain ⟨va, vn, vc, ea, sg0, sg1, sg2⟩ := s
                  subst ea
                  obtain ⟨w6, hrun, r1, r2⟩ := World.ownsMap.update (HMV.out.kept sg0 HNM.out) law Try.underlying61 (by have := HFEW.out; unfold maxLen; exact Nat.lt_of_le_of_lt this (by decide)) (key_mk (k1, k2, k3) HB3.out) (sel_mk gc (flat_own sg2))
                  unfold kv at hrun
                  simp only at hrun
                  have HG : Hid _ := And.intro hS (And.intro sg0 (And.intro sg1 (And.intro sg2 (And.intro r1 r2))))
                  clear hS sg0 sg1 sg2 r1 r2
                  have HF : Hid _ := And.intro (And.intro f0 (And.intro f1 (And.intro f2 (And.intro f3 (And.intro f4 (And.intro f5 (And.intro f6 (And.intro f7 (And.intro f8 (And.intro f9 (And.intro f10 (And.intro f11 f12)))))))))))) (And.intro dd13 (And.intro dd14 (And.intro dd15 dd16)))
                  clear f0 f1 f2 f3 f4 f5 f6 f7 f8 f9 f10 f11 f12 dd13 dd14 dd15 dd16 hdp hd
                  refine Opn.mk ?_
                  dsimp only
                  go_simp
                  obtain ⟨hS, sg0, sg1, sg2, r1, r2⟩ := HG.out
                  obtain ⟨⟨f0, f1, f2, f3, f4, f5, f6, f7, f8, f9, f10, f11, f12⟩, ⟨dd13, dd14, dd15, dd16⟩⟩ := HF.out
                  refine hK.out (x54, x55, x56, .map (some m), x58, .agg #[.int .i64 k1, .int .i64 k2, .int .i64 k3], x60, x61, x62, x63, x64, x65, x66, x67, x68, .agg #[.int .i64 gc, .slice va vn vc]) _ ⟨?sg, ⟨(fun h => f0 (upd_ne h (by decide))), (fun h => f1 (upd_ne h (by decide))), (fun h => f2 (upd_ne h (by decide))), (fun _ => rfl), (fun h => f4 (upd_ne h (by decide))), (fun _ => rfl), (fun h => f6 (upd_ne h (by decide))), (fun h => f7 (upd_ne h (by decide))), (fun h => f8 (upd_ne h (by decide))), (fun h => f9 (upd_ne h (by decide))), (fun h => f10 (upd_ne h (by decide))), (fun h => f11 (upd_ne h (by decide))), (fun h => f12 (upd_ne h (by decide)))⟩, 4, by decide, ⟨((upd_no (by decide)).trans (dd13.trans (by decide))), ((upd_no (by decide)).trans (dd14.trans (by decide))), ((upd_no (by decide)).trans (dd15.trans (by decide))), (by simp [upd])⟩, ⟨(fun h => absurd h (by decide)), (fun h => absurd h (by decide)), (fun h => absurd h (by decide)), (fun h => absurd h (by decide)), (fun _ => ?new)⟩⟩
                  case sg => exact hS.trans (Fr.of_grown (F := fun i => (Value.slice pa np pc).ownBlock = some i ∨ i = m) r2 fun j hj => .inl (.inr (Option.some.inj hj).symm)) fun _ _ h => h
                  case new =>
                    exact ⟨_, tl_put HZV.out HFN.out HGC.out HB3.out sg0 sg2 sg1 HMV.out HMD.out r1 r2⟩
              case he1001 =>
                rintro d ⟨x54, x55, x56, x57, x58, x59, x60, x61, x62, x63, x64, x65, x66, x67, x68, x69⟩ w' hall hI
                dsimp only at hI
                obtain ⟨hS, ⟨f0, f1, f2, f3, f4, f5, f6, f7, f8, f9, f10, f11, f12⟩, j, hj, ⟨dd13, dd14, dd15, dd16⟩, ⟨p0, p1, p2, p3, p4⟩⟩ := hI
                obtain rfl := ph_end (k := 3) hj dd16 (hall 16 (by decide))
                have s := p4 rfl

                clear hall hj f0 f1 f2 f3 f4 f5 f6 f7 f8 f9 f10 f11 f12 dd13 dd14 dd15 dd16 p0 p1 p2 p3 p4
                obtain ⟨v', q⟩ := s
                have HT : Hid _ := q
                clear q hS
                try dsimp only
                go_wp2_with fail
                go_ret
                exact HEND.out v' _ HT.out
    | none =>
      go_enter Try.func18, Try.ntmps18
      go_wp2_with fail
      rw [← HW0.out]
      refine kM.mono ?_
      rintro ev w1 ⟨rfl, g1⟩
      go_upto_region 3 with fail
      clear kM
      obtain ⟨m, hmz⟩ : ∃ m, m = w1.heap.size := ⟨_, rfl⟩
      obtain ⟨W, hW⟩ : ∃ W, W = (w1.setCell ⟨t, 0, none⟩ (.map (some m))).alloc (.map #[] 0) := ⟨_, rfl⟩
      have hz1 := HZ.out.below (HG0.out.trans g1).below
      obtain ⟨hZ0, hzW, htw⟩ := tl_made hz1 hmz hW
      have HZW : Hid (TlZ W t (fun i => F i ∨ i = m) s (some m) []) := hzW
      have HT0 : Hid (Tw w W t F s (fun i => F i ∨ i = m)) := (Tw.same ⟨none, Z, HZ.out⟩ (HG0.out.trans g1).below).trans htw
      have HBW : Hid (BxA W b3 32 #[.int .i64 k1, .int .i64 k2, .int .i64 k3, .int .i64 gp, .int .i64 gc]) := by
        have hb1 := HBX0.out.up g1.below
        have hne : b3 ≠ t := fun q => by have := HZ.out.b.lt; have := HB3E.out; omega
        refine hb1.fr (F := fun i => i = t) ?_ hne
        rw [hW]
        exact (Fr.of_grown (F := fun i => i = t) (grown_setCell (w := w1) (R := t) (j := 0) (u := .map (some m))) fun j hj => .inl (Option.some.inj hj).symm).trans (Fr.of_below ((Below.refl _ _).alloc (Nat.le_refl _) _)) fun _ _ h => h
      subst hZ0
      have HMZ := hide hmz
      have HW := hide hW
      have c0x : w1.cell? ⟨t, 0, none⟩ = some (.map none) := hz1.b.cell 0 _ rfl
      have hfx := hz1.b.free 0
      have hltd : t < w1.heap.size := hz1.b.lt
      have hnl := run_eql_map_nil (P := Try.prog) w1 61 55 67 none Try.underlying61
      clear g1 hz1 hzW htw hmz hW
      go_upto_region 5 with fail
      rw [← HMZ.out, ← HW.out]
      clear c0x hfx hnl hltd
      obtain ⟨c, pv, ps, ob, hfnd⟩ := Fnd.ex [] (k1, k2, k3)
      obtain ⟨pa, np, pc, hpv, hnp⟩ : ∃ pa np pc, pv = .slice pa np pc ∧ np = ps.length := by
        obtain ⟨a, c', e⟩ := own_sl (hfnd.own HZW.out)
        exact ⟨a, _, c', e, rfl⟩
      subst hpv
      have HNP := hide hnp
      have HFN := hide hfnd
      have HRD : Hid ((∀ w', Below W.heap.size W w' → w'.cell? ⟨t, 0, none⟩ = some (.map (some m))) ∧ (∀ w', Below W.heap.size W w' → w'.cell? ⟨b3, 0, none⟩ = some (.int .i64 k1) ∧ w'.cell? ⟨b3, 1, none⟩ = some (.int .i64 k2) ∧ w'.cell? ⟨b3, 2, none⟩ = some (.int .i64 k3) ∧ w'.cell? ⟨b3, 3, none⟩ = some (.int .i64 gp) ∧ w'.cell? ⟨b3, 4, none⟩ = some (.int .i64 gc)) ∧ (∀ w', Below W.heap.size W w' → (Instr.lookup 61 (.map (some m)) (.agg #[.int .i64 k1, .int .i64 k2, .int .i64 k3]) true).run Try.prog w' = .ok (.tuple #[.agg #[.int .i64 c, (Value.slice pa np pc)], .bool ob]) w')) := by
        refine ⟨fun w' hb => (HZW.out.below hb).b.cell 0 _ rfl, fun w' hb => ?_, fun w' hb => HFN.out.look (HZW.out.below hb) HB3.out true⟩
        have hx := HBW.out.up hb
        exact ⟨hx.cell 0 _ rfl, hx.cell 1 _ rfl, hx.cell 2 _ rfl, hx.cell 3 _ rfl, hx.cell 4 _ rfl⟩
      have HOW : Hid (OwI W (Value.slice pa np pc) ps) := hfnd.own HZW.out
      have HUP : Hid (ps.Pairwise (· < ·)) := hfnd.rise HZW.out HS.out
      have HPL : Hid (ps.length ≤ 100000) := hfnd.few HZW.out HPS.out
      have HSY := hide (hfnd.say HZW.out)
      have hSig0 : Below W.heap.size W W.drew := (Below.refl _ _).drew
      rw [← HB3E.out]
      have hS00 : True := trivial
      clear hfnd hnp
      try dsimp only
      refine wp_region_invF (β := Value × Value × Value × Value × Value × Value × Value × Value × Value × Value × Value × Value) (fun a0 xq => ((((((((((((a0.put (some 26) (xq.1)).put (some 27) (xq.2.1)).put (some 28) (xq.2.2.1)).put (some 29) (xq.2.2.2.1)).put (some 30) (xq.2.2.2.2.1)).put (some 31) (xq.2.2.2.2.2.1)).put (some 32) (xq.2.2.2.2.2.2.1)).put (some 25) (xq.2.2.2.2.2.2.2.1)).put (some 33) (xq.2.2.2.2.2.2.2.2.1)).put (some 34) (xq.2.2.2.2.2.2.2.2.2.1)).put (some 5) (xq.2.2.2.2.2.2.2.2.2.2.1)).put (some 6) (xq.2.2.2.2.2.2.2.2.2.2.2))) ?fr1005 (fun xq d w' => (Below W.heap.size W w') ∧ ((d 0 = true → (xq.1) = .pointer (some ⟨t, 0, none⟩)) ∧ (d 1 = true → (xq.2.1) = .pointer (some ⟨t, 0, none⟩)) ∧ (d 2 = true → (xq.2.2.1) = .pointer (some ⟨t, 0, none⟩)) ∧ (d 3 = true → (xq.2.2.2.1) = .map (some m)) ∧ (d 4 = true → (xq.2.2.2.2.1) = .agg #[.int .i64 k1, .int .i64 k2, .int .i64 k3, .int .i64 gp, .int .i64 gc]) ∧ (d 5 = true → (xq.2.2.2.2.2.1) = .agg #[.int .i64 k1, .int .i64 k2, .int .i64 k3]) ∧ (d 6 = true → (xq.2.2.2.2.2.2.1) = .tuple #[.agg #[.int .i64 c, (Value.slice pa np pc)], .bool ob]) ∧ (d 7 = true → (xq.2.2.2.2.2.2.2.1) = .tuple #[.agg #[.int .i64 c, (Value.slice pa np pc)], .bool ob]) ∧ (d 8 = true → (xq.2.2.2.2.2.2.2.2.1) = .agg #[.int .i64 c, (Value.slice pa np pc)]) ∧ (d 9 = true → (xq.2.2.2.2.2.2.2.2.2.1) = .bool ob) ∧ (d 12 = true → (xq.2.2.2.2.2.2.2.2.2.2.2) = .bool ob)) ∧ ∃ j : Nat, j ≤ 2 ∧ (d 10 = decide (0 < j) ∧ d 11 = decide (1 < j)) ∧ ((j = 0 → True) ∧ (j = 1 → ∃ g, (xq.2.2.2.2.2.2.2.2.2.2.1) = .pointer (some ⟨g, 0, none⟩) ∧ BxA w' g 67 #[.int .i64 0, .slice none 0 0] ∧ W.heap.size ≤ g) ∧ (j = 2 → ∃ g, (xq.2.2.2.2.2.2.2.2.2.2.1) = .pointer (some ⟨g, 0, none⟩) ∧ BxA w' g 67 #[.int .i64 c, (Value.slice pa np pc)] ∧ W.heap.size ≤ g))) ?lay1005 mixed (by kernel_rfl) ?h01005 ?hs1005 ?he1005
      case lay1005 =>
        intro xq
        simp only [Act.put, List.setIfInBounds_toArray, List.set_cons_zero, List.set_cons_succ]
        rfl
      case h01005 =>
        refine ⟨(undef, undef, undef, undef, undef, undef, undef, undef, undef, undef, undef, undef), rfl, ?sig1005, ⟨(fun h => by cases h), (fun h => by cases h), (fun h => by cases h), (fun h => by cases h), (fun h => by cases h), (fun h => by cases h), (fun h => by cases h), (fun h => by cases h), (fun h => by cases h), (fun h => by cases h), (fun h => by cases h)⟩, 0, Nat.zero_le _, ⟨rfl, rfl⟩, ?S01005, (fun h => by cases h), (fun h => by cases h)⟩
        case sig1005 => exact hSig0
        case S01005 => exact fun _ => hS00
      case hs1005 =>
        refine ⟨?_, ?_, ?_, ?_, ?_, ?_, ?_, ?_, ?_, ?_, ?_, ?_, ?_, trivial⟩
        · rintro d ⟨x26, x27, x28, x29, x30, x31, x32, x25, x33, x34, x5, x6⟩ w' hI hd hdp KQ hK
          dsimp only at hI
          obtain ⟨hS, ⟨f0, f1, f2, f3, f4, f5, f6, f7, f8, f9, f12⟩, j, hj, ⟨dd10, dd11⟩, ⟨p0, p1, p2⟩⟩ := hI
          have HF : Hid _ := And.intro hS (And.intro (And.intro f0 (And.intro f1 (And.intro f2 (And.intro f3 (And.intro f4 (And.intro f5 (And.intro f6 (And.intro f7 (And.intro f8 (And.intro f9 f12)))))))))) (And.intro hj (And.intro (And.intro dd10 dd11) (And.intro p0 (And.intro p1 p2)))))
          clear hS f0 f1 f2 f3 f4 f5 f6 f7 f8 f9 f12 hj dd10 dd11 p0 p1 p2 hdp hd
          refine Opn.mk ?_
          dsimp only
          go_simp
          obtain ⟨hS, ⟨f0, f1, f2, f3, f4, f5, f6, f7, f8, f9, f12⟩, hj, ⟨dd10, dd11⟩, ⟨p0, p1, p2⟩⟩ := HF.out
          exact hK.out (.pointer (some ⟨t, 0, none⟩), x27, x28, x29, x30, x31, x32, x25, x33, x34, x5, x6) _ ⟨hS, ⟨(fun _ => rfl), (fun h => f1 (upd_ne h (by decide))), (fun h => f2 (upd_ne h (by decide))), (fun h => f3 (upd_ne h (by decide))), (fun h => f4 (upd_ne h (by decide))), (fun h => f5 (upd_ne h (by decide))), (fun h => f6 (upd_ne h (by decide))), (fun h => f7 (upd_ne h (by decide))), (fun h => f8 (upd_ne h (by decide))), (fun h => f9 (upd_ne h (by decide))), (fun h => f12 (upd_ne h (by decide)))⟩, j, hj, ⟨((upd_no (by decide)).trans dd10), ((upd_no (by decide)).trans dd11)⟩, ⟨p0, p1, p2⟩⟩
        · rintro d ⟨x26, x27, x28, x29, x30, x31, x32, x25, x33, x34, x5, x6⟩ w' hI hd hdp KQ hK
          dsimp only at hI
          obtain ⟨hS, ⟨f0, f1, f2, f3, f4, f5, f6, f7, f8, f9, f12⟩, j, hj, ⟨dd10, dd11⟩, ⟨p0, p1, p2⟩⟩ := hI
          obtain rfl := f0 (hdp 0 (by decide +kernel))
          have HF : Hid _ := And.intro hS (And.intro (And.intro f0 (And.intro f1 (And.intro f2 (And.intro f3 (And.intro f4 (And.intro f5 (And.intro f6 (And.intro f7 (And.intro f8 (And.intro f9 f12)))))))))) (And.intro hj (And.intro (And.intro dd10 dd11) (And.intro p0 (And.intro p1 p2)))))
          clear hS f0 f1 f2 f3 f4 f5 f6 f7 f8 f9 f12 hj dd10 dd11 p0 p1 p2 hdp hd
          refine Opn.mk ?_
          dsimp only
          go_simp
          obtain ⟨hS, ⟨f0, f1, f2, f3, f4, f5, f6, f7, f8, f9, f12⟩, hj, ⟨dd10, dd11⟩, ⟨p0, p1, p2⟩⟩ := HF.out
          exact hK.out (.pointer (some ⟨t, 0, none⟩), .pointer (some ⟨t, 0, none⟩), x28, x29, x30, x31, x32, x25, x33, x34, x5, x6) _ ⟨hS, ⟨(fun _ => rfl), (fun _ => rfl), (fun h => f2 (upd_ne h (by decide))), (fun h => f3 (upd_ne h (by decide))), (fun h => f4 (upd_ne h (by decide))), (fun h => f5 (upd_ne h (by decide))), (fun h => f6 (upd_ne h (by decide))), (fun h => f7 (upd_ne h (by decide))), (fun h => f8 (upd_ne h (by decide))), (fun h => f9 (upd_ne h (by decide))), (fun h => f12 (upd_ne h (by decide)))⟩, j, hj, ⟨((upd_no (by decide)).trans dd10), ((upd_no (by decide)).trans dd11)⟩, ⟨p0, p1, p2⟩⟩
        · rintro d ⟨x26, x27, x28, x29, x30, x31, x32, x25, x33, x34, x5, x6⟩ w' hI hd hdp KQ hK
          dsimp only at hI
          obtain ⟨hS, ⟨f0, f1, f2, f3, f4, f5, f6, f7, f8, f9, f12⟩, j, hj, ⟨dd10, dd11⟩, ⟨p0, p1, p2⟩⟩ := hI
          obtain rfl := f1 (hdp 1 (by decide +kernel))
          have HF : Hid _ := And.intro hS (And.intro (And.intro f0 (And.intro f1 (And.intro f2 (And.intro f3 (And.intro f4 (And.intro f5 (And.intro f6 (And.intro f7 (And.intro f8 (And.intro f9 f12)))))))))) (And.intro hj (And.intro (And.intro dd10 dd11) (And.intro p0 (And.intro p1 p2)))))
          clear hS f0 f1 f2 f3 f4 f5 f6 f7 f8 f9 f12 hj dd10 dd11 p0 p1 p2 hdp hd
          refine Opn.mk ?_
          dsimp only
          go_simp
          obtain ⟨hS, ⟨f0, f1, f2, f3, f4, f5, f6, f7, f8, f9, f12⟩, hj, ⟨dd10, dd11⟩, ⟨p0, p1, p2⟩⟩ := HF.out
          exact hK.out (x26, .pointer (some ⟨t, 0, none⟩), .pointer (some ⟨t, 0, none⟩), x29, x30, x31, x32, x25, x33, x34, x5, x6) _ ⟨hS, ⟨(fun h => f0 (upd_ne h (by decide))), (fun _ => rfl), (fun _ => rfl), (fun h => f3 (upd_ne h (by decide))), (fun h => f4 (upd_ne h (by decide))), (fun h => f5 (upd_ne h (by decide))), (fun h => f6 (upd_ne h (by decide))), (fun h => f7 (upd_ne h (by decide))), (fun h => f8 (upd_ne h (by decide))), (fun h => f9 (upd_ne h (by decide))), (fun h => f12 (upd_ne h (by decide)))⟩, j, hj, ⟨((upd_no (by decide)).trans dd10), ((upd_no (by decide)).trans dd11)⟩, ⟨p0, p1, p2⟩⟩
        · rintro d ⟨x26, x27, x28, x29, x30, x31, x32, x25, x33, x34, x5, x6⟩ w' hI hd hdp KQ hK
          dsimp only at hI
          obtain ⟨hS, ⟨f0, f1, f2, f3, f4, f5, f6, f7, f8, f9, f12⟩, j, hj, ⟨dd10, dd11⟩, ⟨p0, p1, p2⟩⟩ := hI
          obtain rfl := f2 (hdp 2 (by decide +kernel))
          have cc := HRD.out.1 w' hS
          have HF : Hid _ := And.intro hS (And.intro (And.intro f0 (And.intro f1 (And.intro f2 (And.intro f3 (And.intro f4 (And.intro f5 (And.intro f6 (And.intro f7 (And.intro f8 (And.intro f9 f12)))))))))) (And.intro hj (And.intro (And.intro dd10 dd11) (And.intro p0 (And.intro p1 p2)))))
          clear hS f0 f1 f2 f3 f4 f5 f6 f7 f8 f9 f12 hj dd10 dd11 p0 p1 p2 hdp hd
          refine Opn.mk ?_
          dsimp only
          go_simp
          obtain ⟨hS, ⟨f0, f1, f2, f3, f4, f5, f6, f7, f8, f9, f12⟩, hj, ⟨dd10, dd11⟩, ⟨p0, p1, p2⟩⟩ := HF.out
          exact hK.out (x26, x27, .pointer (some ⟨t, 0, none⟩), .map (some m), x30, x31, x32, x25, x33, x34, x5, x6) _ ⟨hS, ⟨(fun h => f0 (upd_ne h (by decide))), (fun h => f1 (upd_ne h (by decide))), (fun _ => rfl), (fun _ => rfl), (fun h => f4 (upd_ne h (by decide))), (fun h => f5 (upd_ne h (by decide))), (fun h => f6 (upd_ne h (by decide))), (fun h => f7 (upd_ne h (by decide))), (fun h => f8 (upd_ne h (by decide))), (fun h => f9 (upd_ne h (by decide))), (fun h => f12 (upd_ne h (by decide)))⟩, j, hj, ⟨((upd_no (by decide)).trans dd10), ((upd_no (by decide)).trans dd11)⟩, ⟨p0, p1, p2⟩⟩
        · rintro d ⟨x26, x27, x28, x29, x30, x31, x32, x25, x33, x34, x5, x6⟩ w' hI hd hdp KQ hK
          dsimp only at hI
          obtain ⟨hS, ⟨f0, f1, f2, f3, f4, f5, f6, f7, f8, f9, f12⟩, j, hj, ⟨dd10, dd11⟩, ⟨p0, p1, p2⟩⟩ := hI
          obtain ⟨cs0, cs1, cs2, cs3, cs4⟩ := HRD.out.2.1 w' hS
          have HF : Hid _ := And.intro hS (And.intro (And.intro f0 (And.intro f1 (And.intro f2 (And.intro f3 (And.intro f4 (And.intro f5 (And.intro f6 (And.intro f7 (And.intro f8 (And.intro f9 f12)))))))))) (And.intro hj (And.intro (And.intro dd10 dd11) (And.intro p0 (And.intro p1 p2)))))
          clear hS f0 f1 f2 f3 f4 f5 f6 f7 f8 f9 f12 hj dd10 dd11 p0 p1 p2 hdp hd
          refine Opn.mk ?_
          dsimp only
          go_simp
          obtain ⟨hS, ⟨f0, f1, f2, f3, f4, f5, f6, f7, f8, f9, f12⟩, hj, ⟨dd10, dd11⟩, ⟨p0, p1, p2⟩⟩ := HF.out
          exact hK.out (x26, x27, x28, x29, .agg #[.int .i64 k1, .int .i64 k2, .int .i64 k3, .int .i64 gp, .int .i64 gc], x31, x32, x25, x33, x34, x5, x6) _ ⟨hS, ⟨(fun h => f0 (upd_ne h (by decide))), (fun h => f1 (upd_ne h (by decide))), (fun h => f2 (upd_ne h (by decide))), (fun h => f3 (upd_ne h (by decide))), (fun _ => rfl), (fun h => f5 (upd_ne h (by decide))), (fun h => f6 (upd_ne h (by decide))), (fun h => f7 (upd_ne h (by decide))), (fun h => f8 (upd_ne h (by decide))), (fun h => f9 (upd_ne h (by decide))), (fun h => f12 (upd_ne h (by decide)))⟩, j, hj, ⟨((upd_no (by decide)).trans dd10), ((upd_no (by decide)).trans dd11)⟩, ⟨p0, p1, p2⟩⟩
        · rintro d ⟨x26, x27, x28, x29, x30, x31, x32, x25, x33, x34, x5, x6⟩ w' hI hd hdp KQ hK
          dsimp only at hI
          obtain ⟨hS, ⟨f0, f1, f2, f3, f4, f5, f6, f7, f8, f9, f12⟩, j, hj, ⟨dd10, dd11⟩, ⟨p0, p1, p2⟩⟩ := hI
          obtain rfl := f4 (hdp 4 (by decide +kernel))
          have kk := keyOf_any w' k1 k2 k3 gp gc
          unfold kv at kk
          simp only at kk
          have HF : Hid _ := And.intro hS (And.intro (And.intro f0 (And.intro f1 (And.intro f2 (And.intro f3 (And.intro f4 (And.intro f5 (And.intro f6 (And.intro f7 (And.intro f8 (And.intro f9 f12)))))))))) (And.intro hj (And.intro (And.intro dd10 dd11) (And.intro p0 (And.intro p1 p2)))))
          clear hS f0 f1 f2 f3 f4 f5 f6 f7 f8 f9 f12 hj dd10 dd11 p0 p1 p2 hdp hd
          refine Opn.mk ?_
          dsimp only
          go_simp
          go_wp2_with (first | (go_at_call 30; with_reducible refine kk.mono ?_; rintro e5 w5 ⟨rfl, g5⟩))
          obtain ⟨hS, ⟨f0, f1, f2, f3, f4, f5, f6, f7, f8, f9, f12⟩, hj, ⟨dd10, dd11⟩, ⟨p0, p1, p2⟩⟩ := HF.out
          refine hK.out (x26, x27, x28, x29, .agg #[.int .i64 k1, .int .i64 k2, .int .i64 k3, .int .i64 gp, .int .i64 gc], .agg #[.int .i64 k1, .int .i64 k2, .int .i64 k3], x32, x25, x33, x34, x5, x6) _ ⟨?sg, ⟨(fun h => f0 (upd_ne h (by decide))), (fun h => f1 (upd_ne h (by decide))), (fun h => f2 (upd_ne h (by decide))), (fun h => f3 (upd_ne h (by decide))), (fun _ => rfl), (fun _ => rfl), (fun h => f6 (upd_ne h (by decide))), (fun h => f7 (upd_ne h (by decide))), (fun h => f8 (upd_ne h (by decide))), (fun h => f9 (upd_ne h (by decide))), (fun h => f12 (upd_ne h (by decide)))⟩, j, hj, ⟨((upd_no (by decide)).trans dd10), ((upd_no (by decide)).trans dd11)⟩, ⟨(fun hj0 => ?u0), (fun hj0 => ?u1), (fun hj0 => ?u2)⟩⟩
          case sg => exact hS.trans (g5.below.mono hS.size)
          case u0 =>
            have s := p0 hj0
            trivial
          case u1 =>
            have s := p1 hj0
            obtain ⟨g, ea, hx, hg⟩ := s
            exact ⟨g, ea, hx.up g5.below, hg⟩
          case u2 =>
            have s := p2 hj0
            obtain ⟨g, ea, hx, hg⟩ := s
            exact ⟨g, ea, hx.up g5.below, hg⟩
        · rintro d ⟨x26, x27, x28, x29, x30, x31, x32, x25, x33, x34, x5, x6⟩ w' hI hd hdp KQ hK
          dsimp only at hI
          obtain ⟨hS, ⟨f0, f1, f2, f3, f4, f5, f6, f7, f8, f9, f12⟩, j, hj, ⟨dd10, dd11⟩, ⟨p0, p1, p2⟩⟩ := hI
          obtain rfl := f3 (hdp 3 (by decide +kernel))
          obtain rfl := f5 (hdp 5 (by decide +kernel))
          have cl := HRD.out.2.2 w' hS
          have HF : Hid _ := And.intro hS (And.intro (And.intro f0 (And.intro f1 (And.intro f2 (And.intro f3 (And.intro f4 (And.intro f5 (And.intro f6 (And.intro f7 (And.intro f8 (And.intro f9 f12)))))))))) (And.intro hj (And.intro (And.intro dd10 dd11) (And.intro p0 (And.intro p1 p2)))))
          clear hS f0 f1 f2 f3 f4 f5 f6 f7 f8 f9 f12 hj dd10 dd11 p0 p1 p2 hdp hd
          refine Opn.mk ?_
          dsimp only
          go_simp
          obtain ⟨hS, ⟨f0, f1, f2, f3, f4, f5, f6, f7, f8, f9, f12⟩, hj, ⟨dd10, dd11⟩, ⟨p0, p1, p2⟩⟩ := HF.out
          exact hK.out (x26, x27, x28, .map (some m), x30, .agg #[.int .i64 k1, .int .i64 k2, .int .i64 k3], .tuple #[.agg #[.int .i64 c, (Value.slice pa np pc)], .bool ob], x25, x33, x34, x5, x6) _ ⟨hS, ⟨(fun h => f0 (upd_ne h (by decide))), (fun h => f1 (upd_ne h (by decide))), (fun h => f2 (upd_ne h (by decide))), (fun _ => rfl), (fun h => f4 (upd_ne h (by decide))), (fun _ => rfl), (fun _ => rfl), (fun h => f7 (upd_ne h (by decide))), (fun h => f8 (upd_ne h (by decide))), (fun h => f9 (upd_ne h (by decide))), (fun h => f12 (upd_ne h (by decide)))⟩, j, hj, ⟨((upd_no (by decide)).trans dd10), ((upd_no (by decide)).trans dd11)⟩, ⟨p0, p1, p2⟩⟩
        · rintro d ⟨x26, x27, x28, x29, x30, x31, x32, x25, x33, x34, x5, x6⟩ w' hI hd hdp KQ hK
          dsimp only at hI
          obtain ⟨hS, ⟨f0, f1, f2, f3, f4, f5, f6, f7, f8, f9, f12⟩, j, hj, ⟨dd10, dd11⟩, ⟨p0, p1, p2⟩⟩ := hI
          obtain rfl := f6 (hdp 6 (by decide +kernel))
          have HF : Hid _ := And.intro hS (And.intro (And.intro f0 (And.intro f1 (And.intro f2 (And.intro f3 (And.intro f4 (And.intro f5 (And.intro f6 (And.intro f7 (And.intro f8 (And.intro f9 f12)))))))))) (And.intro hj (And.intro (And.intro dd10 dd11) (And.intro p0 (And.intro p1 p2)))))
          clear hS f0 f1 f2 f3 f4 f5 f6 f7 f8 f9 f12 hj dd10 dd11 p0 p1 p2 hdp hd
          refine Opn.mk ?_
          dsimp only
          go_simp
          obtain ⟨hS, ⟨f0, f1, f2, f3, f4, f5, f6, f7, f8, f9, f12⟩, hj, ⟨dd10, dd11⟩, ⟨p0, p1, p2⟩⟩ := HF.out
          exact hK.out (x26, x27, x28, x29, x30, x31, .tuple #[.agg #[.int .i64 c, (Value.slice pa np pc)], .bool ob], .tuple #[.agg #[.int .i64 c, (Value.slice pa np pc)], .bool ob], x33, x34, x5, x6) _ ⟨hS, ⟨(fun h => f0 (upd_ne h (by decide))), (fun h => f1 (upd_ne h (by decide))), (fun h => f2 (upd_ne h (by decide))), (fun h => f3 (upd_ne h (by decide))), (fun h => f4 (upd_ne h (by decide))), (fun h => f5 (upd_ne h (by decide))), (fun _ => rfl), (fun _ => rfl), (fun h => f8 (upd_ne h (by decide))), (fun h => f9 (upd_ne h (by decide))), (fun h => f12 (upd_ne h (by decide)))⟩, j, hj, ⟨((upd_no (by decide)).trans dd10), ((upd_no (by decide)).trans dd11)⟩, ⟨p0, p1, p2⟩⟩
        · rintro d ⟨x26, x27, x28, x29, x30, x31, x32, x25, x33, x34, x5, x6⟩ w' hI hd hdp KQ hK
          dsimp only at hI
          obtain ⟨hS, ⟨f0, f1, f2, f3, f4, f5, f6, f7, f8, f9, f12⟩, j, hj, ⟨dd10, dd11⟩, ⟨p0, p1, p2⟩⟩ := hI
          obtain rfl := f7 (hdp 7 (by decide +kernel))
          have HF : Hid _ := And.intro hS (And.intro (And.intro f0 (And.intro f1 (And.intro f2 (And.intro f3 (And.intro f4 (And.intro f5 (And.intro f6 (And.intro f7 (And.intro f8 (And.intro f9 f12)))))))))) (And.intro hj (And.intro (And.intro dd10 dd11) (And.intro p0 (And.intro p1 p2)))))
          clear hS f0 f1 f2 f3 f4 f5 f6 f7 f8 f9 f12 hj dd10 dd11 p0 p1 p2 hdp hd
          refine Opn.mk ?_
          dsimp only
          go_simp
          obtain ⟨hS, ⟨f0, f1, f2, f3, f4, f5, f6, f7, f8, f9, f12⟩, hj, ⟨dd10, dd11⟩, ⟨p0, p1, p2⟩⟩ := HF.out
          exact hK.out (x26, x27, x28, x29, x30, x31, x32, .tuple #[.agg #[.int .i64 c, (Value.slice pa np pc)], .bool ob], .agg #[.int .i64 c, (Value.slice pa np pc)], x34, x5, x6) _ ⟨hS, ⟨(fun h => f0 (upd_ne h (by decide))), (fun h => f1 (upd_ne h (by decide))), (fun h => f2 (upd_ne h (by decide))), (fun h => f3 (upd_ne h (by decide))), (fun h => f4 (upd_ne h (by decide))), (fun h => f5 (upd_ne h (by decide))), (fun h => f6 (upd_ne h (by decide))), (fun _ => rfl), (fun _ => rfl), (fun h => f9 (upd_ne h (by decide))), (fun h => f12 (upd_ne h (by decide)))⟩, j, hj, ⟨((upd_no (by decide)).trans dd10), ((upd_no (by decide)).trans dd11)⟩, ⟨p0, p1, p2⟩⟩
        · rintro d ⟨x26, x27, x28, x29, x30, x31, x32, x25, x33, x34, x5, x6⟩ w' hI hd hdp KQ hK
          dsimp only at hI
          obtain ⟨hS, ⟨f0, f1, f2, f3, f4, f5, f6, f7, f8, f9, f12⟩, j, hj, ⟨dd10, dd11⟩, ⟨p0, p1, p2⟩⟩ := hI
          obtain rfl := f7 (hdp 7 (by decide +kernel))
          have HF : Hid _ := And.intro hS (And.intro (And.intro f0 (And.intro f1 (And.intro f2 (And.intro f3 (And.intro f4 (And.intro f5 (And.intro f6 (And.intro f7 (And.intro f8 (And.intro f9 f12)))))))))) (And.intro hj (And.intro (And.intro dd10 dd11) (And.intro p0 (And.intro p1 p2)))))
          clear hS f0 f1 f2 f3 f4 f5 f6 f7 f8 f9 f12 hj dd10 dd11 p0 p1 p2 hdp hd
          refine Opn.mk ?_
          dsimp only
          go_simp
          obtain ⟨hS, ⟨f0, f1, f2, f3, f4, f5, f6, f7, f8, f9, f12⟩, hj, ⟨dd10, dd11⟩, ⟨p0, p1, p2⟩⟩ := HF.out
          exact hK.out (x26, x27, x28, x29, x30, x31, x32, .tuple #[.agg #[.int .i64 c, (Value.slice pa np pc)], .bool ob], x33, .bool ob, x5, x6) _ ⟨hS, ⟨(fun h => f0 (upd_ne h (by decide))), (fun h => f1 (upd_ne h (by decide))), (fun h => f2 (upd_ne h (by decide))), (fun h => f3 (upd_ne h (by decide))), (fun h => f4 (upd_ne h (by decide))), (fun h => f5 (upd_ne h (by decide))), (fun h => f6 (upd_ne h (by decide))), (fun _ => rfl), (fun h => f8 (upd_ne h (by decide))), (fun _ => rfl), (fun h => f12 (upd_ne h (by decide)))⟩, j, hj, ⟨((upd_no (by decide)).trans dd10), ((upd_no (by decide)).trans dd11)⟩, ⟨p0, p1, p2⟩⟩
        · rintro d ⟨x26, x27, x28, x29, x30, x31, x32, x25, x33, x34, x5, x6⟩ w' hI hd hdp KQ hK
          dsimp only at hI
          obtain ⟨hS, ⟨f0, f1, f2, f3, f4, f5, f6, f7, f8, f9, f12⟩, j, hj, ⟨dd10, dd11⟩, ⟨p0, p1, p2⟩⟩ := hI
          obtain rfl := ph_zero dd10 hd
          have s := p0 rfl
          clear p0 p1 p2 hj
          have HG : Hid _ := And.intro hS s
          clear hS s
          have HF : Hid _ := And.intro (And.intro f0 (And.intro f1 (And.intro f2 (And.intro f3 (And.intro f4 (And.intro f5 (And.intro f6 (And.intro f7 (And.intro f8 (And.intro f9 f12)))))))))) (And.intro dd10 dd11)
          clear f0 f1 f2 f3 f4 f5 f6 f7 f8 f9 f12 dd10 dd11 hdp hd
          refine Opn.mk ?_
          dsimp only
          go_simp
          obtain ⟨hS, s⟩ := HG.out
          obtain ⟨⟨f0, f1, f2, f3, f4, f5, f6, f7, f8, f9, f12⟩, ⟨dd10, dd11⟩⟩ := HF.out
          refine hK.out (x26, x27, x28, x29, x30, x31, x32, x25, x33, x34, .pointer (some ⟨w'.heap.size, 0, none⟩), x6) _ ⟨?sg, ⟨(fun h => f0 (upd_ne h (by decide))), (fun h => f1 (upd_ne h (by decide))), (fun h => f2 (upd_ne h (by decide))), (fun h => f3 (upd_ne h (by decide))), (fun h => f4 (upd_ne h (by decide))), (fun h => f5 (upd_ne h (by decide))), (fun h => f6 (upd_ne h (by decide))), (fun h => f7 (upd_ne h (by decide))), (fun h => f8 (upd_ne h (by decide))), (fun h => f9 (upd_ne h (by decide))), (fun h => f12 (upd_ne h (by decide)))⟩, 1, by decide, ⟨(by simp [upd]), ((upd_no (by decide)).trans (dd11.trans (by decide)))⟩, ⟨(fun h => absurd h (by decide)), (fun _ => ?new), (fun h => absurd h (by decide))⟩⟩
          case sg => exact hS.trans (((Below.refl _ _).alloc (Nat.le_refl _) _).mono hS.size)
          case new =>
            exact ⟨_, rfl, BxA.new _ _ _, hS.size⟩
        · rintro d ⟨x26, x27, x28, x29, x30, x31, x32, x25, x33, x34, x5, x6⟩ w' hI hd hdp KQ hK
          dsimp only at hI
          obtain ⟨hS, ⟨f0, f1, f2, f3, f4, f5, f6, f7, f8, f9, f12⟩, j, hj, ⟨dd10, dd11⟩, ⟨p0, p1, p2⟩⟩ := hI
          obtain rfl := f8 (hdp 8 (by decide +kernel))
          obtain rfl := ph_eq (k := 0) dd11 hd dd10 (hdp 10 (by decide +kernel))
          have s := p1 rfl
          clear p0 p1 p2 hj
          obtain ⟨g, ea, hx, hg⟩ := s
          subst ea
          have cg0 := hx.cell 0 _ rfl
          have cg1 := hx.cell 1 _ rfl
          have cf0 := hx.free 0
          have cf1 := hx.free 1
          have HG : Hid _ := And.intro hS (And.intro hx hg)
          clear hS hx hg
          have HF : Hid _ := And.intro (And.intro f0 (And.intro f1 (And.intro f2 (And.intro f3 (And.intro f4 (And.intro f5 (And.intro f6 (And.intro f7 (And.intro f8 (And.intro f9 f12)))))))))) (And.intro dd10 dd11)
          clear f0 f1 f2 f3 f4 f5 f6 f7 f8 f9 f12 dd10 dd11 hdp hd
          refine Opn.mk ?_
          dsimp only
          go_simp
          obtain ⟨hS, hx, hg⟩ := HG.out
          obtain ⟨⟨f0, f1, f2, f3, f4, f5, f6, f7, f8, f9, f12⟩, ⟨dd10, dd11⟩⟩ := HF.out
          refine hK.out (x26, x27, x28, x29, x30, x31, x32, x25, .agg #[.int .i64 c, (Value.slice pa np pc)], x34, .pointer (some ⟨g, 0, none⟩), x6) _ ⟨?sg, ⟨(fun h => f0 (upd_ne h (by decide))), (fun h => f1 (upd_ne h (by decide))), (fun h => f2 (upd_ne h (by decide))), (fun h => f3 (upd_ne h (by decide))), (fun h => f4 (upd_ne h (by decide))), (fun h => f5 (upd_ne h (by decide))), (fun h => f6 (upd_ne h (by decide))), (fun h => f7 (upd_ne h (by decide))), (fun _ => rfl), (fun h => f9 (upd_ne h (by decide))), (fun h => f12 (upd_ne h (by decide)))⟩, 2, by decide, ⟨((upd_no (by decide)).trans (dd10.trans (by decide))), (by simp [upd])⟩, ⟨(fun h => absurd h (by decide)), (fun h => absurd h (by decide)), (fun _ => ?new)⟩⟩
          case sg => exact below_setG (below_setG hS hg) hg
          case new =>
            exact ⟨_, rfl, BxA.set (BxA.set hx 0 _) 1 _, hg⟩
        · rintro d ⟨x26, x27, x28, x29, x30, x31, x32, x25, x33, x34, x5, x6⟩ w' hI hd hdp KQ hK
          dsimp only at hI
          obtain ⟨hS, ⟨f0, f1, f2, f3, f4, f5, f6, f7, f8, f9, f12⟩, j, hj, ⟨dd10, dd11⟩, ⟨p0, p1, p2⟩⟩ := hI
          obtain rfl := f9 (hdp 9 (by decide +kernel))
          have HF : Hid _ := And.intro hS (And.intro (And.intro f0 (And.intro f1 (And.intro f2 (And.intro f3 (And.intro f4 (And.intro f5 (And.intro f6 (And.intro f7 (And.intro f8 (And.intro f9 f12)))))))))) (And.intro hj (And.intro (And.intro dd10 dd11) (And.intro p0 (And.intro p1 p2)))))
          clear hS f0 f1 f2 f3 f4 f5 f6 f7 f8 f9 f12 hj dd10 dd11 p0 p1 p2 hdp hd
          refine Opn.mk ?_
          dsimp only
          go_simp
          obtain ⟨hS, ⟨f0, f1, f2, f3, f4, f5, f6, f7, f8, f9, f12⟩, hj, ⟨dd10, dd11⟩, ⟨p0, p1, p2⟩⟩ := HF.out
          exact hK.out (x26, x27, x28, x29, x30, x31, x32, x25, x33, .bool ob, x5, .bool ob) _ ⟨hS, ⟨(fun h => f0 (upd_ne h (by decide))), (fun h => f1 (upd_ne h (by decide))), (fun h => f2 (upd_ne h (by decide))), (fun h => f3 (upd_ne h (by decide))), (fun h => f4 (upd_ne h (by decide))), (fun h => f5 (upd_ne h (by decide))), (fun h => f6 (upd_ne h (by decide))), (fun h => f7 (upd_ne h (by decide))), (fun h => f8 (upd_ne h (by decide))), (fun _ => rfl), (fun _ => rfl)⟩, j, hj, ⟨((upd_no (by decide)).trans dd10), ((upd_no (by decide)).trans dd11)⟩, ⟨p0, p1, p2⟩⟩
      case he1005 =>
        rintro d ⟨x26, x27, x28, x29, x30, x31, x32, x25, x33, x34, x5, x6⟩ w' hall hI
        dsimp only at hI
        obtain ⟨hS, ⟨f0, f1, f2, f3, f4, f5, f6, f7, f8, f9, f12⟩, j, hj, ⟨dd10, dd11⟩, ⟨p0, p1, p2⟩⟩ := hI
        obtain rfl := ph_end (k := 1) hj dd11 (hall 11 (by decide))
        have s := p2 rfl

        obtain rfl := f12 (hall 12 (by decide))
        clear hall hj f0 f1 f2 f3 f4 f5 f6 f7 f8 f9 f12 dd10 dd11 p0 p1 p2
        obtain ⟨gb, ea, hx, hg⟩ := s
        subst ea
        obtain ⟨cs0, cs1, cs2, cs3, cs4⟩ := HRD.out.2.1 w' hS
        have kB := bs_own w' (Value.slice pa np pc) ps gp (own_below HOW.out hS) HPL.out HUP.out
        have cg1 := hx.cell 1 _ rfl
        obtain ⟨at', hat⟩ : ∃ a, a = ps.countP (· < gp) := ⟨_, rfl⟩
        obtain ⟨tw, htw⟩ : ∃ a, a = ps.contains gp := ⟨_, rfl⟩
        rw [← hat, ← htw] at kB
        have HAT : Hid (at' ≤ ps.length ∧ at' = ps.countP (· < gp)) := ⟨by rw [hat]; exact List.countP_le_length, hat⟩
        have HTW := hide htw
        have HX : Hid (BxA w' gb 67 #[.int .i64 c, (Value.slice pa np pc)] ∧ W.heap.size ≤ gb) := ⟨hx, hg⟩
        have HS5 : Hid (Below W.heap.size W w') := hS
        clear hS hx hg hat htw hSig0 hS00 cs0 cs1 cs2
        try dsimp only
        go_wp2_with fail
        refine kB.mono ?_
        rintro ev V ⟨rfl, g6⟩
        go_upto_region 7 with fail
        clear kB cs3 cs4 cg1
        have HBV : Hid (Below W.heap.size W V) := HS5.out.trans (g6.below.mono HS5.out.size)
        have HT1 : Hid (Tw w V t F s (fun i => F i ∨ i = m)) := HT0.out.grow HBV.out
        have HZV : Hid (TlZ V t (fun i => F i ∨ i = m) s (some m) []) := HZW.out.below HBV.out
        have HOV : Hid (OwI V (Value.slice pa np pc) ps) := own_below HOW.out HBV.out
        have HGV : Hid (BxA V gb 67 #[.int .i64 c, (Value.slice pa np pc)]) := HX.out.1.up g6.below
        have HSV : Hid (BxA V b3 32 #[.int .i64 k1, .int .i64 k2, .int .i64 k3, .int .i64 gp, .int .i64 gc]) := HBW.out.up HBV.out
        have ct0 := HGV.out.cell 0 _ rfl
        have cs4 := HSV.out.cell 4 _ rfl
        clear g6
        cases tw
        case true =>
          have HE : Hid (AdP w t F (addF s ((k1, k2, k3), gp, gc)) (.returned (.int .i64 121)) V) := by
            apply hide
            rcases HSY.out with ⟨ho, _, hf⟩ | ⟨ho, hp, hf⟩
            · rw [addF_twice HQ.out.symm hf HTW.out.symm]
              exact ⟨rfl, _, HT1.out⟩
            · have := HTW.out
              rw [hp] at this
              simp at this
          go_wp2_with fail
          go_ret
          exact HE.out
        case false =>
          by_cases hform : ob = true ∧ c ≠ gc
          · have HE : Hid (AdP w t F (addF s ((k1, k2, k3), gp, gc)) (.returned (.int .i64 12)) V) := by
              apply hide
              rcases HSY.out with ⟨ho, _, hf⟩ | ⟨ho, hp, hf⟩
              · rw [addF_form HQ.out.symm hf HTW.out.symm hform.2]
                exact ⟨rfl, _, HT1.out⟩
              · rw [hform.1] at ho; cases ho
            have hb1 : (c != gc) = true := by simpa using hform.2
            obtain ⟨rfl, hne⟩ := hform
            go_wp2_with fail
            go_ret
            exact HE.out
          · have HGC : Hid (ob = true → c = gc) := fun q => Classical.byContradiction fun q2 => hform ⟨q, q2⟩
            obtain ⟨D, hDo, hDm⟩ : ∃ D, V.ownsMap Try.prog 55 sel m [].length D ∧ MD D [] := by
              rcases HZV.out.m with ⟨h1, _⟩ | ⟨m', D, h1, h2, h3⟩
              · cases h1
              · cases h1; exact ⟨D, h2, h3⟩
            have HMV := hide hDo
            have HMD := hide hDm
            have HNM : Hid (some m ≠ (Value.slice pa np pc).ownBlock) := map_away HOV.out hDo
            have HQD : Hid ((∀ w', Fr (fun i => (Value.slice pa np pc).ownBlock = some i ∨ i = m) V w' → w'.cell? ⟨t, 0, none⟩ = some (.map (some m))) ∧ (∀ w', Fr (fun i => (Value.slice pa np pc).ownBlock = some i ∨ i = m) V w' → w'.cell? ⟨b3, 0, none⟩ = some (.int .i64 k1) ∧ w'.cell? ⟨b3, 1, none⟩ = some (.int .i64 k2) ∧ w'.cell? ⟨b3, 2, none⟩ = some (.int .i64 k3) ∧ w'.cell? ⟨b3, 3, none⟩ = some (.int .i64 gp) ∧ w'.cell? ⟨b3, 4, none⟩ = some (.int .i64 gc)) ∧ (∀ w', Fr (fun i => (Value.slice pa np pc).ownBlock = some i ∨ i = m) V w' → w'.cell? ⟨gb, 0, none⟩ = some (.int .i64 c) ∧ w'.cell? ⟨gb, 1, none⟩ = some (Value.slice pa np pc))) := by
              refine ⟨fun w' hb => (HZV.out.b.fr hb (bxa_away HZV.out.b (by decide) HOV.out HMV.out)).cell 0 _ rfl, fun w' hb => ?_, fun w' hb => ?_⟩
              · have hx := HSV.out.fr hb (bxa_away HSV.out (by decide) HOV.out HMV.out)
                exact ⟨hx.cell 0 _ rfl, hx.cell 1 _ rfl, hx.cell 2 _ rfl, hx.cell 3 _ rfl, hx.cell 4 _ rfl⟩
              · have hx := HGV.out.fr hb (bxa_away HGV.out (by decide) HOV.out HMV.out)
                exact ⟨hx.cell 0 _ rfl, hx.cell 1 _ rfl⟩
            have HEND : Hid (∀ (v' : Value) (w9 : World), Tw V w9 t (fun i => F i ∨ i = m) (if ob then updE s (k1, k2, k3) (insP ps gp) else s ++ [((k1, k2, k3), gc, insP ps gp)]) (fun i => (fun i => F i ∨ i = m) i ∨ v'.ownBlock = some i) → AdP w t F (addF s ((k1, k2, k3), gp, gc)) (.returned (.int .i64 0)) w9) := by
              intro v' w9 q
              have q2 := HT1.out.trans q
              rcases HSY.out with ⟨ho, _, hf⟩ | ⟨ho, hp, hf⟩
              · rw [addF_put HQ.out.symm hf HTW.out.symm (HGC.out ho)]
                rw [ho, if_pos rfl] at q2
                exact ⟨rfl, _, q2⟩
              · rw [addF_new HQ.out.symm hf]
                rw [ho, if_neg (by simp), hp] at q2
                exact ⟨rfl, _, q2⟩
            have hSig0 : Fr (fun i => (Value.slice pa np pc).ownBlock = some i ∨ i = m) V V.drew := Fr.of_below (Below.refl _ _).drew
            have hS00 : V.grownBy V.drew (Value.slice pa np pc).ownBlock ∧ OwI V.drew (Value.slice pa np pc) ps := ⟨grown_of_below (Below.refl _ _).drew _, own_below HOV.out (Below.refl _ _).drew⟩
            clear hDo hDm
            cases ob
            case false =>
              clear hform
              go_upto_region 11 with fail
              clear ct0 cs4
              try dsimp only
              refine wp_region_invF (β := Value × Value × Value × Value × Value × Value × Value × Value × Value × Value × Value × Value × Value × Value × Value × Value) (fun a0 xq => ((((((((((((((((a0.put (some 54) (xq.1)).put (some 55) (xq.2.1)).put (some 56) (xq.2.2.1)).put (some 57) (xq.2.2.2.1)).put (some 58) (xq.2.2.2.2.1)).put (some 59) (xq.2.2.2.2.2.1)).put (some 60) (xq.2.2.2.2.2.2.1)).put (some 61) (xq.2.2.2.2.2.2.2.1)).put (some 62) (xq.2.2.2.2.2.2.2.2.1)).put (some 63) (xq.2.2.2.2.2.2.2.2.2.1)).put (some 64) (xq.2.2.2.2.2.2.2.2.2.2.1)).put (some 65) (xq.2.2.2.2.2.2.2.2.2.2.2.1)).put (some 66) (xq.2.2.2.2.2.2.2.2.2.2.2.2.1)).put (some 67) (xq.2.2.2.2.2.2.2.2.2.2.2.2.2.1)).put (some 68) (xq.2.2.2.2.2.2.2.2.2.2.2.2.2.2.1)).put (some 69) (xq.2.2.2.2.2.2.2.2.2.2.2.2.2.2.2))) ?fr1003 (fun xq d w' => (Fr (fun i => (Value.slice pa np pc).ownBlock = some i ∨ i = m) V w') ∧ ((d 0 = true → (xq.1) = .pointer (some ⟨t, 0, none⟩)) ∧ (d 1 = true → (xq.2.1) = .pointer (some ⟨t, 0, none⟩)) ∧ (d 2 = true → (xq.2.2.1) = .pointer (some ⟨t, 0, none⟩)) ∧ (d 3 = true → (xq.2.2.2.1) = .map (some m)) ∧ (d 4 = true → (xq.2.2.2.2.1) = .agg #[.int .i64 k1, .int .i64 k2, .int .i64 k3, .int .i64 gp, .int .i64 gc]) ∧ (d 5 = true → (xq.2.2.2.2.2.1) = .agg #[.int .i64 k1, .int .i64 k2, .int .i64 k3]) ∧ (d 6 = true → (xq.2.2.2.2.2.2.1) = .pointer (some ⟨b3, 4, none⟩)) ∧ (d 7 = true → (xq.2.2.2.2.2.2.2.1) = .int .i64 gc) ∧ (d 8 = true → (xq.2.2.2.2.2.2.2.2.1) = .pointer (some ⟨gb, 1, none⟩)) ∧ (d 9 = true → (xq.2.2.2.2.2.2.2.2.2.1) = (Value.slice pa np pc)) ∧ (d 10 = true → (xq.2.2.2.2.2.2.2.2.2.2.1) = .int .i64 (at' : Nat)) ∧ (d 11 = true → (xq.2.2.2.2.2.2.2.2.2.2.2.1) = .pointer (some ⟨b3, 3, none⟩)) ∧ (d 12 = true → (xq.2.2.2.2.2.2.2.2.2.2.2.2.1) = .int .i64 gp)) ∧ ∃ j : Nat, j ≤ 4 ∧ (d 13 = decide (0 < j) ∧ d 14 = decide (1 < j) ∧ d 15 = decide (2 < j) ∧ d 16 = decide (3 < j)) ∧ ((j = 0 → V.grownBy w' (Value.slice pa np pc).ownBlock ∧ OwI w' (Value.slice pa np pc) ps) ∧ (j = 1 → V.grownBy w' (Value.slice pa np pc).ownBlock ∧ OwI w' (Value.slice pa np pc) ps ∧ ∃ g, (xq.2.2.2.2.2.2.2.2.2.2.2.2.2.1) = .slice (some ⟨g, 0, none⟩) 1 1 ∧ BxA w' g 3 #[.int .i64 gp] ∧ V.heap.size ≤ g) ∧ (j = 2 → ∃ va vn vc, (xq.2.2.2.2.2.2.2.2.2.2.2.2.2.2.1) = .slice va vn vc ∧ V.grownBy w' (Value.slice pa np pc).ownBlock ∧ (∀ r, (Value.slice va vn vc).ownBlock = some r → (Value.slice pa np pc).ownBlock = some r ∨ V.heap.size ≤ r) ∧ OwI w' (Value.slice va vn vc) (insP ps gp)) ∧ (j = 3 → ∃ va vn vc, (xq.2.2.2.2.2.2.2.2.2.2.2.2.2.2.2) = .agg #[.int .i64 gc, .slice va vn vc] ∧ V.grownBy w' (Value.slice pa np pc).ownBlock ∧ (∀ r, (Value.slice va vn vc).ownBlock = some r → (Value.slice pa np pc).ownBlock = some r ∨ V.heap.size ≤ r) ∧ OwI w' (Value.slice va vn vc) (insP ps gp)) ∧ (j = 4 → ∃ v' : Value, Tw V w' t (fun i => F i ∨ i = m) (if false then updE s (k1, k2, k3) (insP ps gp) else s ++ [((k1, k2, k3), gc, insP ps gp)]) (fun i => (fun i => F i ∨ i = m) i ∨ v'.ownBlock = some i)))) ?lay1003 mixed (by kernel_rfl) ?h01003 ?hs1003 ?he1003
              case lay1003 =>
                intro xq
                simp only [Act.put, List.setIfInBounds_toArray, List.set_cons_zero, List.set_cons_succ]
                rfl
              case h01003 =>
                refine ⟨(undef, undef, undef, undef, undef, undef, undef, undef, undef, undef, undef, undef, undef, undef, undef, undef), rfl, ?sig1003, ⟨(fun h => by cases h), (fun h => by cases h), (fun h => by cases h), (fun h => by cases h), (fun h => by cases h), (fun h => by cases h), (fun h => by cases h), (fun h => by cases h), (fun h => by cases h), (fun h => by cases h), (fun h => by cases h), (fun h => by cases h), (fun h => by cases h)⟩, 0, Nat.zero_le _, ⟨rfl, rfl, rfl, rfl⟩, ?S01003, (fun h => by cases h), (fun h => by cases h), (fun h => by cases h), (fun h => by cases h)⟩
                case sig1003 => exact hSig0
                case S01003 => exact fun _ => hS00
              case hs1003 =>
                refine ⟨?_, ?_, ?_, ?_, ?_, ?_, ?_, ?_, ?_, ?_, ?_, ?_, ?_, ?_, ?_, ?_, ?_, trivial⟩
                · rintro d ⟨x54, x55, x56, x57, x58, x59, x60, x61, x62, x63, x64, x65, x66, x67, x68, x69⟩ w' hI hd hdp KQ hK
                  dsimp only at hI
                  obtain ⟨hS, ⟨f0, f1, f2, f3, f4, f5, f6, f7, f8, f9, f10, f11, f12⟩, j, hj, ⟨dd13, dd14, dd15, dd16⟩, ⟨p0, p1, p2, p3, p4⟩⟩ := hI
                  have HF : Hid _ := And.intro hS (And.intro (And.intro f0 (And.intro f1 (And.intro f2 (And.intro f3 (And.intro f4 (And.intro f5 (And.intro f6 (And.intro f7 (And.intro f8 (And.intro f9 (And.intro f10 (And.intro f11 f12)))))))))))) (And.intro hj (And.intro (And.intro dd13 (And.intro dd14 (And.intro dd15 dd16))) (And.intro p0 (And.intro p1 (And.intro p2 (And.intro p3 p4)))))))
                  clear hS f0 f1 f2 f3 f4 f5 f6 f7 f8 f9 f10 f11 f12 hj dd13 dd14 dd15 dd16 p0 p1 p2 p3 p4 hdp hd
                  refine Opn.mk ?_
                  dsimp only
                  go_simp
                  obtain ⟨hS, ⟨f0, f1, f2, f3, f4, f5, f6, f7, f8, f9, f10, f11, f12⟩, hj, ⟨dd13, dd14, dd15, dd16⟩, ⟨p0, p1, p2, p3, p4⟩⟩ := HF.out
                  exact hK.out (.pointer (some ⟨t, 0, none⟩), x55, x56, x57, x58, x59, x60, x61, x62, x63, x64, x65, x66, x67, x68, x69) _ ⟨hS, ⟨(fun _ => rfl), (fun h => f1 (upd_ne h (by decide))), (fun h => f2 (upd_ne h (by decide))), (fun h => f3 (upd_ne h (by decide))), (fun h => f4 (upd_ne h (by decide))), (fun h => f5 (upd_ne h (by decide))), (fun h => f6 (upd_ne h (by decide))), (fun h => f7 (upd_ne h (by decide))), (fun h => f8 (upd_ne h (by decide))), (fun h => f9 (upd_ne h (by decide))), (fun h => f10 (upd_ne h (by decide))), (fun h => f11 (upd_ne h (by decide))), (fun h => f12 (upd_ne h (by decide)))⟩, j, hj, ⟨((upd_no (by decide)).trans dd13), ((upd_no (by decide)).trans dd14), ((upd_no (by decide)).trans dd15), ((upd_no (by decide)).trans dd16)⟩, ⟨p0, p1, p2, p3, p4⟩⟩
                · rintro d ⟨x54, x55, x56, x57, x58, x59, x60, x61, x62, x63, x64, x65, x66, x67, x68, x69⟩ w' hI hd hdp KQ hK
                  dsimp only at hI
                  obtain ⟨hS, ⟨f0, f1, f2, f3, f4, f5, f6, f7, f8, f9, f10, f11, f12⟩, j, hj, ⟨dd13, dd14, dd15, dd16⟩, ⟨p0, p1, p2, p3, p4⟩⟩ := hI
                  obtain rfl := f0 (hdp 0 (by decide +kernel))
                  have HF : Hid _ := And.intro hS (And.intro (And.intro f0 (And.intro f1 (And.intro f2 (And.intro f3 (And.intro f4 (And.intro f5 (And.intro f6 (And.intro f7 (And.intro f8 (And.intro f9 (And.intro f10 (And.intro f11 f12)))))))))))) (And.intro hj (And.intro (And.intro dd13 (And.intro dd14 (And.intro dd15 dd16))) (And.intro p0 (And.intro p1 (And.intro p2 (And.intro p3 p4)))))))
                  clear hS f0 f1 f2 f3 f4 f5 f6 f7 f8 f9 f10 f11 f12 hj dd13 dd14 dd15 dd16 p0 p1 p2 p3 p4 hdp hd
                  refine Opn.mk ?_
                  dsimp only
                  go_simp
                  obtain ⟨hS, ⟨f0, f1, f2, f3, f4, f5, f6, f7, f8, f9, f10, f11, f12⟩, hj, ⟨dd13, dd14, dd15, dd16⟩, ⟨p0, p1, p2, p3, p4⟩⟩ := HF.out
                  exact hK.out (.pointer (some ⟨t, 0, none⟩), .pointer (some ⟨t, 0, none⟩), x56, x57, x58, x59, x60, x61, x62, x63, x64, x65, x66, x67, x68, x69) _ ⟨hS, ⟨(fun _ => rfl), (fun _ => rfl), (fun h => f2 (upd_ne h (by decide))), (fun h => f3 (upd_ne h (by decide))), (fun h => f4 (upd_ne h (by decide))), (fun h => f5 (upd_ne h (by decide))), (fun h => f6 (upd_ne h (by decide))), (fun h => f7 (upd_ne h (by decide))), (fun h => f8 (upd_ne h (by decide))), (fun h => f9 (upd_ne h (by decide))), (fun h => f10 (upd_ne h (by decide))), (fun h => f11 (upd_ne h (by decide))), (fun h => f12 (upd_ne h (by decide)))⟩, j, hj, ⟨((upd_no (by decide)).trans dd13), ((upd_no (by decide)).trans dd14), ((upd_no (by decide)).trans dd15), ((upd_no (by decide)).trans dd16)⟩, ⟨p0, p1, p2, p3, p4⟩⟩
                · rintro d ⟨x54, x55, x56, x57, x58, x59, x60, x61, x62, x63, x64, x65, x66, x67, x68, x69⟩ w' hI hd hdp KQ hK
                  dsimp only at hI
                  obtain ⟨hS, ⟨f0, f1, f2, f3, f4, f5, f6, f7, f8, f9, f10, f11, f12⟩, j, hj, ⟨dd13, dd14, dd15, dd16⟩, ⟨p0, p1, p2, p3, p4⟩⟩ := hI
                  obtain rfl := f1 (hdp 1 (by decide +kernel))
                  have HF : Hid _ := And.intro hS (And.intro (And.intro f0 (And.intro f1 (And.intro f2 (And.intro f3 (And.intro f4 (And.intro f5 (And.intro f6 (And.intro f7 (And.intro f8 (And.intro f9 (And.intro f10 (And.intro f11 f12)))))))))))) (And.intro hj (And.intro (And.intro dd13 (And.intro dd14 (And.intro dd15 dd16))) (And.intro p0 (And.intro p1 (And.intro p2 (And.intro p3 p4)))))))
                  clear hS f0 f1 f2 f3 f4 f5 f6 f7 f8 f9 f10 f11 f12 hj dd13 dd14 dd15 dd16 p0 p1 p2 p3 p4 hdp hd
                  refine Opn.mk ?_
                  dsimp only
                  go_simp
                  obtain ⟨hS, ⟨f0, f1, f2, f3, f4, f5, f6, f7, f8, f9, f10, f11, f12⟩, hj, ⟨dd13, dd14, dd15, dd16⟩, ⟨p0, p1, p2, p3, p4⟩⟩ := HF.out
                  exact hK.out (x54, .pointer (some ⟨t, 0, none⟩), .pointer (some ⟨t, 0, none⟩), x57, x58, x59, x60, x61, x62, x63, x64, x65, x66, x67, x68, x69) _ ⟨hS, ⟨(fun h => f0 (upd_ne h (by decide))), (fun _ => rfl), (fun _ => rfl), (fun h => f3 (upd_ne h (by decide))), (fun h => f4 (upd_ne h (by decide))), (fun h => f5 (upd_ne h (by decide))), (fun h => f6 (upd_ne h (by decide))), (fun h => f7 (upd_ne h (by decide))), (fun h => f8 (upd_ne h (by decide))), (fun h => f9 (upd_ne h (by decide))), (fun h => f10 (upd_ne h (by decide))), (fun h => f11 (upd_ne h (by decide))), (fun h => f12 (upd_ne h (by decide)))⟩, j, hj, ⟨((upd_no (by decide)).trans dd13), ((upd_no (by decide)).trans dd14), ((upd_no (by decide)).trans dd15), ((upd_no (by decide)).trans dd16)⟩, ⟨p0, p1, p2, p3, p4⟩⟩
                · rintro d ⟨x54, x55, x56, x57, x58, x59, x60, x61, x62, x63, x64, x65, x66, x67, x68, x69⟩ w' hI hd hdp KQ hK
                  dsimp only at hI
                  obtain ⟨hS, ⟨f0, f1, f2, f3, f4, f5, f6, f7, f8, f9, f10, f11, f12⟩, j, hj, ⟨dd13, dd14, dd15, dd16⟩, ⟨p0, p1, p2, p3, p4⟩⟩ := hI
                  obtain rfl := f2 (hdp 2 (by decide +kernel))
                  have cc := HQD.out.1 w' hS
                  have HF : Hid _ := And.intro hS (And.intro (And.intro f0 (And.intro f1 (And.intro f2 (And.intro f3 (And.intro f4 (And.intro f5 (And.intro f6 (And.intro f7 (And.intro f8 (And.intro f9 (And.intro f10 (And.intro f11 f12)))))))))))) (And.intro hj (And.intro (And.intro dd13 (And.intro dd14 (And.intro dd15 dd16))) (And.intro p0 (And.intro p1 (And.intro p2 (And.intro p3 p4)))))))
                  clear hS f0 f1 f2 f3 f4 f5 f6 f7 f8 f9 f10 f11 f12 hj dd13 dd14 dd15 dd16 p0 p1 p2 p3 p4 hdp hd
                  refine Opn.mk ?_
                  dsimp only
                  go_simp
                  obtain ⟨hS, ⟨f0, f1, f2, f3, f4, f5, f6, f7, f8, f9, f10, f11, f12⟩, hj, ⟨dd13, dd14, dd15, dd16⟩, ⟨p0, p1, p2, p3, p4⟩⟩ := HF.out
                  exact hK.out (x54, x55, .pointer (some ⟨t, 0, none⟩), .map (some m), x58, x59, x60, x61, x62, x63, x64, x65, x66, x67, x68, x69) _ ⟨hS, ⟨(fun h => f0 (upd_ne h (by decide))), (fun h => f1 (upd_ne h (by decide))), (fun _ => rfl), (fun _ => rfl), (fun h => f4 (upd_ne h (by decide))), (fun h => f5 (upd_ne h (by decide))), (fun h => f6 (upd_ne h (by decide))), (fun h => f7 (upd_ne h (by decide))), (fun h => f8 (upd_ne h (by decide))), (fun h => f9 (upd_ne h (by decide))), (fun h => f10 (upd_ne h (by decide))), (fun h => f11 (upd_ne h (by decide))), (fun h => f12 (upd_ne h (by decide)))⟩, j, hj, ⟨((upd_no (by decide)).trans dd13), ((upd_no (by decide)).trans dd14), ((upd_no (by decide)).trans dd15), ((upd_no (by decide)).trans dd16)⟩, ⟨p0, p1, p2, p3, p4⟩⟩
                · rintro d ⟨x54, x55, x56, x57, x58, x59, x60, x61, x62, x63, x64, x65, x66, x67, x68, x69⟩ w' hI hd hdp KQ hK
                  dsimp only at hI
                  obtain ⟨hS, ⟨f0, f1, f2, f3, f4, f5, f6, f7, f8, f9, f10, f11, f12⟩, j, hj, ⟨dd13, dd14, dd15, dd16⟩, ⟨p0, p1, p2, p3, p4⟩⟩ := hI
                  obtain ⟨cs0, cs1, cs2, cs3, cs4⟩ := HQD.out.2.1 w' hS
                  have HF : Hid _ := And.intro hS (And.intro (And.intro f0 (And.intro f1 (And.intro f2 (And.intro f3 (And.intro f4 (And.intro f5 (And.intro f6 (And.intro f7 (And.intro f8 (And.intro f9 (And.intro f10 (And.intro f11 f12)))))))))))) (And.intro hj (And.intro (And.intro dd13 (And.intro dd14 (And.intro dd15 dd16))) (And.intro p0 (And.intro p1 (And.intro p2 (And.intro p3 p4)))))))
                  clear hS f0 f1 f2 f3 f4 f5 f6 f7 f8 f9 f10 f11 f12 hj dd13 dd14 dd15 dd16 p0 p1 p2 p3 p4 hdp hd
                  refine Opn.mk ?_
                  dsimp only
                  go_simp
                  obtain ⟨hS, ⟨f0, f1, f2, f3, f4, f5, f6, f7, f8, f9, f10, f11, f12⟩, hj, ⟨dd13, dd14, dd15, dd16⟩, ⟨p0, p1, p2, p3, p4⟩⟩ := HF.out
                  exact hK.out (x54, x55, x56, x57, .agg #[.int .i64 k1, .int .i64 k2, .int .i64 k3, .int .i64 gp, .int .i64 gc], x59, x60, x61, x62, x63, x64, x65, x66, x67, x68, x69) _ ⟨hS, ⟨(fun h => f0 (upd_ne h (by decide))), (fun h => f1 (upd_ne h (by decide))), (fun h => f2 (upd_ne h (by decide))), (fun h => f3 (upd_ne h (by decide))), (fun _ => rfl), (fun h => f5 (upd_ne h (by decide))), (fun h => f6 (upd_ne h (by decide))), (fun h => f7 (upd_ne h (by decide))), (fun h => f8 (upd_ne h (by decide))), (fun h => f9 (upd_ne h (by decide))), (fun h => f10 (upd_ne h (by decide))), (fun h => f11 (upd_ne h (by decide))), (fun h => f12 (upd_ne h (by decide)))⟩, j, hj, ⟨((upd_no (by decide)).trans dd13), ((upd_no (by decide)).trans dd14), ((upd_no (by decide)).trans dd15), ((upd_no (by decide)).trans dd16)⟩, ⟨p0, p1, p2, p3, p4⟩⟩
                · rintro d ⟨x54, x55, x56, x57, x58, x59, x60, x61, x62, x63, x64, x65, x66, x67, x68, x69⟩ w' hI hd hdp KQ hK
                  dsimp only at hI
                  obtain ⟨hS, ⟨f0, f1, f2, f3, f4, f5, f6, f7, f8, f9, f10, f11, f12⟩, j, hj, ⟨dd13, dd14, dd15, dd16⟩, ⟨p0, p1, p2, p3, p4⟩⟩ := hI
                  obtain rfl := f4 (hdp 4 (by decide +kernel))
                  have kk := keyOf_any w' k1 k2 k3 gp gc
                  unfold kv at kk
                  simp only at kk
                  have HF : Hid _ := And.intro hS (And.intro (And.intro f0 (And.intro f1 (And.intro f2 (And.intro f3 (And.intro f4 (And.intro f5 (And.intro f6 (And.intro f7 (And.intro f8 (And.intro f9 (And.intro f10 (And.intro f11 f12)))))))))))) (And.intro hj (And.intro (And.intro dd13 (And.intro dd14 (And.intro dd15 dd16))) (And.intro p0 (And.intro p1 (And.intro p2 (And.intro p3 p4)))))))
                  clear hS f0 f1 f2 f3 f4 f5 f6 f7 f8 f9 f10 f11 f12 hj dd13 dd14 dd15 dd16 p0 p1 p2 p3 p4 hdp hd
                  refine Opn.mk ?_
                  dsimp only
                  go_simp
                  go_wp2_with (first | (go_at_call 30; with_reducible refine kk.mono ?_; rintro e5 w5 ⟨rfl, g5⟩))
                  obtain ⟨hS, ⟨f0, f1, f2, f3, f4, f5, f6, f7, f8, f9, f10, f11, f12⟩, hj, ⟨dd13, dd14, dd15, dd16⟩, ⟨p0, p1, p2, p3, p4⟩⟩ := HF.out
                  refine hK.out (x54, x55, x56, x57, .agg #[.int .i64 k1, .int .i64 k2, .int .i64 k3, .int .i64 gp, .int .i64 gc], .agg #[.int .i64 k1, .int .i64 k2, .int .i64 k3], x60, x61, x62, x63, x64, x65, x66, x67, x68, x69) _ ⟨?sg, ⟨(fun h => f0 (upd_ne h (by decide))), (fun h => f1 (upd_ne h (by decide))), (fun h => f2 (upd_ne h (by decide))), (fun h => f3 (upd_ne h (by decide))), (fun _ => rfl), (fun _ => rfl), (fun h => f6 (upd_ne h (by decide))), (fun h => f7 (upd_ne h (by decide))), (fun h => f8 (upd_ne h (by decide))), (fun h => f9 (upd_ne h (by decide))), (fun h => f10 (upd_ne h (by decide))), (fun h => f11 (upd_ne h (by decide))), (fun h => f12 (upd_ne h (by decide)))⟩, j, hj, ⟨((upd_no (by decide)).trans dd13), ((upd_no (by decide)).trans dd14), ((upd_no (by decide)).trans dd15), ((upd_no (by decide)).trans dd16)⟩, ⟨(fun hj0 => ?u0), (fun hj0 => ?u1), (fun hj0 => ?u2), (fun hj0 => ?u3), (fun hj0 => ?u4)⟩⟩
                  case sg => exact hS.trans (Fr.of_below g5.below) fun _ _ h => h
                  case u0 =>
                    have s := p0 hj0
                    exact ⟨grown_trans s.1 (grown_of_below g5.below _), own_below s.2 g5.below⟩
                  case u1 =>
                    have s := p1 hj0
                    obtain ⟨sg0, so, g, ea, hx, hg⟩ := s
                    exact ⟨grown_trans sg0 (grown_of_below g5.below _), own_below so g5.below, g, ea, hx.up g5.below, hg⟩
                  case u2 =>
                    have s := p2 hj0
                    obtain ⟨va, vn, vc, ea, sg0, sg1, sg2⟩ := s
                    exact ⟨va, vn, vc, ea, grown_trans sg0 (grown_of_below g5.below _), sg1, own_below sg2 g5.below⟩
                  case u3 =>
                    have s := p3 hj0
                    obtain ⟨va, vn, vc, ea, sg0, sg1, sg2⟩ := s
                    exact ⟨va, vn, vc, ea, grown_trans sg0 (grown_of_below g5.below _), sg1, own_below sg2 g5.below⟩
                  case u4 =>
                    have s := p4 hj0
                    obtain ⟨v', q⟩ := s
                    exact ⟨v', q.grow g5.below⟩
                · rintro d ⟨x54, x55, x56, x57, x58, x59, x60, x61, x62, x63, x64, x65, x66, x67, x68, x69⟩ w' hI hd hdp KQ hK
                  dsimp only at hI
                  obtain ⟨hS, ⟨f0, f1, f2, f3, f4, f5, f6, f7, f8, f9, f10, f11, f12⟩, j, hj, ⟨dd13, dd14, dd15, dd16⟩, ⟨p0, p1, p2, p3, p4⟩⟩ := hI
                  have HF : Hid _ := And.intro hS (And.intro (And.intro f0 (And.intro f1 (And.intro f2 (And.intro f3 (And.intro f4 (And.intro f5 (And.intro f6 (And.intro f7 (And.intro f8 (And.intro f9 (And.intro f10 (And.intro f11 f12)))))))))))) (And.intro hj (And.intro (And.intro dd13 (And.intro dd14 (And.intro dd15 dd16))) (And.intro p0 (And.intro p1 (And.intro p2 (And.intro p3 p4)))))))
                  clear hS f0 f1 f2 f3 f4 f5 f6 f7 f8 f9 f10 f11 f12 hj dd13 dd14 dd15 dd16 p0 p1 p2 p3 p4 hdp hd
                  refine Opn.mk ?_
                  dsimp only
                  go_simp
                  obtain ⟨hS, ⟨f0, f1, f2, f3, f4, f5, f6, f7, f8, f9, f10, f11, f12⟩, hj, ⟨dd13, dd14, dd15, dd16⟩, ⟨p0, p1, p2, p3, p4⟩⟩ := HF.out
                  exact hK.out (x54, x55, x56, x57, x58, x59, .pointer (some ⟨b3, 4, none⟩), x61, x62, x63, x64, x65, x66, x67, x68, x69) _ ⟨hS, ⟨(fun h => f0 (upd_ne h (by decide))), (fun h => f1 (upd_ne h (by decide))), (fun h => f2 (upd_ne h (by decide))), (fun h => f3 (upd_ne h (by decide))), (fun h => f4 (upd_ne h (by decide))), (fun h => f5 (upd_ne h (by decide))), (fun _ => rfl), (fun h => f7 (upd_ne h (by decide))), (fun h => f8 (upd_ne h (by decide))), (fun h => f9 (upd_ne h (by decide))), (fun h => f10 (upd_ne h (by decide))), (fun h => f11 (upd_ne h (by decide))), (fun h => f12 (upd_ne h (by decide)))⟩, j, hj, ⟨((upd_no (by decide)).trans dd13), ((upd_no (by decide)).trans dd14), ((upd_no (by decide)).trans dd15), ((upd_no (by decide)).trans dd16)⟩, ⟨p0, p1, p2, p3, p4⟩⟩
                · rintro d ⟨x54, x55, x56, x57, x58, x59, x60, x61, x62, x63, x64, x65, x66, x67, x68, x69⟩ w' hI hd hdp KQ hK
                  dsimp only at hI
                  obtain ⟨hS, ⟨f0, f1, f2, f3, f4, f5, f6, f7, f8, f9, f10, f11, f12⟩, j, hj, ⟨dd13, dd14, dd15, dd16⟩, ⟨p0, p1, p2, p3, p4⟩⟩ := hI
                  obtain rfl := f6 (hdp 6 (by decide +kernel))
                  obtain ⟨cs0, cs1, cs2, cs3, cs4⟩ := HQD.out.2.1 w' hS
                  have HF : Hid _ := And.intro hS (And.intro (And.intro f0 (And.intro f1 (And.intro f2 (And.intro f3 (And.intro f4 (And.intro f5 (And.intro f6 (And.intro f7 (And.intro f8 (And.intro f9 (And.intro f10 (And.intro f11 f12)))))))))))) (And.intro hj (And.intro (And.intro dd13 (And.intro dd14 (And.intro dd15 dd16))) (And.intro p0 (And.intro p1 (And.intro p2 (And.intro p3 p4)))))))
                  clear hS f0 f1 f2 f3 f4 f5 f6 f7 f8 f9 f10 f11 f12 hj dd13 dd14 dd15 dd16 p0 p1 p2 p3 p4 hdp hd
                  refine Opn.mk ?_
                  dsimp only
                  go_simp
                  obtain ⟨hS, ⟨f0, f1, f2, f3, f4, f5, f6, f7, f8, f9, f10, f11, f12⟩, hj, ⟨dd13, dd14, dd15, dd16⟩, ⟨p0, p1, p2, p3, p4⟩⟩ := HF.out
                  exact hK.out (x54, x55, x56, x57, x58, x59, .pointer (some ⟨b3, 4, none⟩), .int .i64 gc, x62, x63, x64, x65, x66, x67, x68, x69) _ ⟨hS, ⟨(fun h => f0 (upd_ne h (by decide))), (fun h => f1 (upd_ne h (by decide))), (fun h => f2 (upd_ne h (by decide))), (fun h => f3 (upd_ne h (by decide))), (fun h => f4 (upd_ne h (by decide))), (fun h => f5 (upd_ne h (by decide))), (fun _ => rfl), (fun _ => rfl), (fun h => f8 (upd_ne h (by decide))), (fun h => f9 (upd_ne h (by decide))), (fun h => f10 (upd_ne h (by decide))), (fun h => f11 (upd_ne h (by decide))), (fun h => f12 (upd_ne h (by decide)))⟩, j, hj, ⟨((upd_no (by decide)).trans dd13), ((upd_no (by decide)).trans dd14), ((upd_no (by decide)).trans dd15), ((upd_no (by decide)).trans dd16)⟩, ⟨p0, p1, p2, p3, p4⟩⟩
                · rintro d ⟨x54, x55, x56, x57, x58, x59, x60, x61, x62, x63, x64, x65, x66, x67, x68, x69⟩ w' hI hd hdp KQ hK
                  dsimp only at hI
                  obtain ⟨hS, ⟨f0, f1, f2, f3, f4, f5, f6, f7, f8, f9, f10, f11, f12⟩, j, hj, ⟨dd13, dd14, dd15, dd16⟩, ⟨p0, p1, p2, p3, p4⟩⟩ := hI
                  have HF : Hid _ := And.intro hS (And.intro (And.intro f0 (And.intro f1 (And.intro f2 (And.intro f3 (And.intro f4 (And.intro f5 (And.intro f6 (And.intro f7 (And.intro f8 (And.intro f9 (And.intro f10 (And.intro f11 f12)))))))))))) (And.intro hj (And.intro (And.intro dd13 (And.intro dd14 (And.intro dd15 dd16))) (And.intro p0 (And.intro p1 (And.intro p2 (And.intro p3 p4)))))))
                  clear hS f0 f1 f2 f3 f4 f5 f6 f7 f8 f9 f10 f11 f12 hj dd13 dd14 dd15 dd16 p0 p1 p2 p3 p4 hdp hd
                  refine Opn.mk ?_
                  dsimp only
                  go_simp
                  obtain ⟨hS, ⟨f0, f1, f2, f3, f4, f5, f6, f7, f8, f9, f10, f11, f12⟩, hj, ⟨dd13, dd14, dd15, dd16⟩, ⟨p0, p1, p2, p3, p4⟩⟩ := HF.out
                  exact hK.out (x54, x55, x56, x57, x58, x59, x60, x61, .pointer (some ⟨gb, 1, none⟩), x63, x64, x65, x66, x67, x68, x69) _ ⟨hS, ⟨(fun h => f0 (upd_ne h (by decide))), (fun h => f1 (upd_ne h (by decide))), (fun h => f2 (upd_ne h (by decide))), (fun h => f3 (upd_ne h (by decide))), (fun h => f4 (upd_ne h (by decide))), (fun h => f5 (upd_ne h (by decide))), (fun h => f6 (upd_ne h (by decide))), (fun h => f7 (upd_ne h (by decide))), (fun _ => rfl), (fun h => f9 (upd_ne h (by decide))), (fun h => f10 (upd_ne h (by decide))), (fun h => f11 (upd_ne h (by decide))), (fun h => f12 (upd_ne h (by decide)))⟩, j, hj, ⟨((upd_no (by decide)).trans dd13), ((upd_no (by decide)).trans dd14), ((upd_no (by decide)).trans dd15), ((upd_no (by decide)).trans dd16)⟩, ⟨p0, p1, p2, p3, p4⟩⟩
                · rintro d ⟨x54, x55, x56, x57, x58, x59, x60, x61, x62, x63, x64, x65, x66, x67, x68, x69⟩ w' hI hd hdp KQ hK
                  dsimp only at hI
                  obtain ⟨hS, ⟨f0, f1, f2, f3, f4, f5, f6, f7, f8, f9, f10, f11, f12⟩, j, hj, ⟨dd13, dd14, dd15, dd16⟩, ⟨p0, p1, p2, p3, p4⟩⟩ := hI
                  obtain rfl := f8 (hdp 8 (by decide +kernel))
                  obtain ⟨ct0, ct1⟩ := HQD.out.2.2 w' hS
                  have HF : Hid _ := And.intro hS (And.intro (And.intro f0 (And.intro f1 (And.intro f2 (And.intro f3 (And.intro f4 (And.intro f5 (And.intro f6 (And.intro f7 (And.intro f8 (And.intro f9 (And.intro f10 (And.intro f11 f12)))))))))))) (And.intro hj (And.intro (And.intro dd13 (And.intro dd14 (And.intro dd15 dd16))) (And.intro p0 (And.intro p1 (And.intro p2 (And.intro p3 p4)))))))
                  clear hS f0 f1 f2 f3 f4 f5 f6 f7 f8 f9 f10 f11 f12 hj dd13 dd14 dd15 dd16 p0 p1 p2 p3 p4 hdp hd
                  refine Opn.mk ?_
                  dsimp only
                  go_simp
                  obtain ⟨hS, ⟨f0, f1, f2, f3, f4, f5, f6, f7, f8, f9, f10, f11, f12⟩, hj, ⟨dd13, dd14, dd15, dd16⟩, ⟨p0, p1, p2, p3, p4⟩⟩ := HF.out
                  exact hK.out (x54, x55, x56, x57, x58, x59, x60, x61, .pointer (some ⟨gb, 1, none⟩), (Value.slice pa np pc), x64, x65, x66, x67, x68, x69) _ ⟨hS, ⟨(fun h => f0 (upd_ne h (by decide))), (fun h => f1 (upd_ne h (by decide))), (fun h => f2 (upd_ne h (by decide))), (fun h => f3 (upd_ne h (by decide))), (fun h => f4 (upd_ne h (by decide))), (fun h => f5 (upd_ne h (by decide))), (fun h => f6 (upd_ne h (by decide))), (fun h => f7 (upd_ne h (by decide))), (fun _ => rfl), (fun _ => rfl), (fun h => f10 (upd_ne h (by decide))), (fun h => f11 (upd_ne h (by decide))), (fun h => f12 (upd_ne h (by decide)))⟩, j, hj, ⟨((upd_no (by decide)).trans dd13), ((upd_no (by decide)).trans dd14), ((upd_no (by decide)).trans dd15), ((upd_no (by decide)).trans dd16)⟩, ⟨p0, p1, p2, p3, p4⟩⟩
                · rintro d ⟨x54, x55, x56, x57, x58, x59, x60, x61, x62, x63, x64, x65, x66, x67, x68, x69⟩ w' hI hd hdp KQ hK
                  dsimp only at hI
                  obtain ⟨hS, ⟨f0, f1, f2, f3, f4, f5, f6, f7, f8, f9, f10, f11, f12⟩, j, hj, ⟨dd13, dd14, dd15, dd16⟩, ⟨p0, p1, p2, p3, p4⟩⟩ := hI
                  have HF : Hid _ := And.intro hS (And.intro (And.intro f0 (And.intro f1 (And.intro f2 (And.intro f3 (And.intro f4 (And.intro f5 (And.intro f6 (And.intro f7 (And.intro f8 (And.intro f9 (And.intro f10 (And.intro f11 f12)))))))))))) (And.intro hj (And.intro (And.intro dd13 (And.intro dd14 (And.intro dd15 dd16))) (And.intro p0 (And.intro p1 (And.intro p2 (And.intro p3 p4)))))))
                  clear hS f0 f1 f2 f3 f4 f5 f6 f7 f8 f9 f10 f11 f12 hj dd13 dd14 dd15 dd16 p0 p1 p2 p3 p4 hdp hd
                  refine Opn.mk ?_
                  dsimp only
                  go_simp
                  obtain ⟨hS, ⟨f0, f1, f2, f3, f4, f5, f6, f7, f8, f9, f10, f11, f12⟩, hj, ⟨dd13, dd14, dd15, dd16⟩, ⟨p0, p1, p2, p3, p4⟩⟩ := HF.out
                  exact hK.out (x54, x55, x56, x57, x58, x59, x60, x61, x62, x63, .int .i64 (at' : Nat), x65, x66, x67, x68, x69) _ ⟨hS, ⟨(fun h => f0 (upd_ne h (by decide))), (fun h => f1 (upd_ne h (by decide))), (fun h => f2 (upd_ne h (by decide))), (fun h => f3 (upd_ne h (by decide))), (fun h => f4 (upd_ne h (by decide))), (fun h => f5 (upd_ne h (by decide))), (fun h => f6 (upd_ne h (by decide))), (fun h => f7 (upd_ne h (by decide))), (fun h => f8 (upd_ne h (by decide))), (fun h => f9 (upd_ne h (by decide))), (fun _ => rfl), (fun h => f11 (upd_ne h (by decide))), (fun h => f12 (upd_ne h (by decide)))⟩, j, hj, ⟨((upd_no (by decide)).trans dd13), ((upd_no (by decide)).trans dd14), ((upd_no (by decide)).trans dd15), ((upd_no (by decide)).trans dd16)⟩, ⟨p0, p1, p2, p3, p4⟩⟩
                · rintro d ⟨x54, x55, x56, x57, x58, x59, x60, x61, x62, x63, x64, x65, x66, x67, x68, x69⟩ w' hI hd hdp KQ hK
                  dsimp only at hI
                  obtain ⟨hS, ⟨f0, f1, f2, f3, f4, f5, f6, f7, f8, f9, f10, f11, f12⟩, j, hj, ⟨dd13, dd14, dd15, dd16⟩, ⟨p0, p1, p2, p3, p4⟩⟩ := hI
                  have HF : Hid _ := And.intro hS (And.intro (And.intro f0 (And.intro f1 (And.intro f2 (And.intro f3 (And.intro f4 (And.intro f5 (And.intro f6 (And.intro f7 (And.intro f8 (And.intro f9 (And.intro f10 (And.intro f11 f12)))))))))))) (And.intro hj (And.intro (And.intro dd13 (And.intro dd14 (And.intro dd15 dd16))) (And.intro p0 (And.intro p1 (And.intro p2 (And.intro p3 p4)))))))
                  clear hS f0 f1 f2 f3 f4 f5 f6 f7 f8 f9 f10 f11 f12 hj dd13 dd14 dd15 dd16 p0 p1 p2 p3 p4 hdp hd
                  refine Opn.mk ?_
                  dsimp only
                  go_simp
                  obtain ⟨hS, ⟨f0, f1, f2, f3, f4, f5, f6, f7, f8, f9, f10, f11, f12⟩, hj, ⟨dd13, dd14, dd15, dd16⟩, ⟨p0, p1, p2, p3, p4⟩⟩ := HF.out
                  exact hK.out (x54, x55, x56, x57, x58, x59, x60, x61, x62, x63, x64, .pointer (some ⟨b3, 3, none⟩), x66, x67, x68, x69) _ ⟨hS, ⟨(fun h => f0 (upd_ne h (by decide))), (fun h => f1 (upd_ne h (by decide))), (fun h => f2 (upd_ne h (by decide))), (fun h => f3 (upd_ne h (by decide))), (fun h => f4 (upd_ne h (by decide))), (fun h => f5 (upd_ne h (by decide))), (fun h => f6 (upd_ne h (by decide))), (fun h => f7 (upd_ne h (by decide))), (fun h => f8 (upd_ne h (by decide))), (fun h => f9 (upd_ne h (by decide))), (fun h => f10 (upd_ne h (by decide))), (fun _ => rfl), (fun h => f12 (upd_ne h (by decide)))⟩, j, hj, ⟨((upd_no (by decide)).trans dd13), ((upd_no (by decide)).trans dd14), ((upd_no (by decide)).trans dd15), ((upd_no (by decide)).trans dd16)⟩, ⟨p0, p1, p2, p3, p4⟩⟩
                · rintro d ⟨x54, x55, x56, x57, x58, x59, x60, x61, x62, x63, x64, x65, x66, x67, x68, x69⟩ w' hI hd hdp KQ hK
                  dsimp only at hI
                  obtain ⟨hS, ⟨f0, f1, f2, f3, f4, f5, f6, f7, f8, f9, f10, f11, f12⟩, j, hj, ⟨dd13, dd14, dd15, dd16⟩, ⟨p0, p1, p2, p3, p4⟩⟩ := hI
                  obtain rfl := f11 (hdp 11 (by decide +kernel))
                  obtain ⟨cs0, cs1, cs2, cs3, cs4⟩ := HQD.out.2.1 w' hS
                  have HF : Hid _ := And.intro hS (And.intro (And.intro f0 (And.intro f1 (And.intro f2 (And.intro f3 (And.intro f4 (And.intro f5 (And.intro f6 (And.intro f7 (And.intro f8 (And.intro f9 (And.intro f10 (And.intro f11 f12)))))))))))) (And.intro hj (And.intro (And.intro dd13 (And.intro dd14 (And.intro dd15 dd16))) (And.intro p0 (And.intro p1 (And.intro p2 (And.intro p3 p4)))))))
                  clear hS f0 f1 f2 f3 f4 f5 f6 f7 f8 f9 f10 f11 f12 hj dd13 dd14 dd15 dd16 p0 p1 p2 p3 p4 hdp hd
                  refine Opn.mk ?_
                  dsimp only
                  go_simp
                  obtain ⟨hS, ⟨f0, f1, f2, f3, f4, f5, f6, f7, f8, f9, f10, f11, f12⟩, hj, ⟨dd13, dd14, dd15, dd16⟩, ⟨p0, p1, p2, p3, p4⟩⟩ := HF.out
                  exact hK.out (x54, x55, x56, x57, x58, x59, x60, x61, x62, x63, x64, .pointer (some ⟨b3, 3, none⟩), .int .i64 gp, x67, x68, x69) _ ⟨hS, ⟨(fun h => f0 (upd_ne h (by decide))), (fun h => f1 (upd_ne h (by decide))), (fun h => f2 (upd_ne h (by decide))), (fun h => f3 (upd_ne h (by decide))), (fun h => f4 (upd_ne h (by decide))), (fun h => f5 (upd_ne h (by decide))), (fun h => f6 (upd_ne h (by decide))), (fun h => f7 (upd_ne h (by decide))), (fun h => f8 (upd_ne h (by decide))), (fun h => f9 (upd_ne h (by decide))), (fun h => f10 (upd_ne h (by decide))), (fun _ => rfl), (fun _ => rfl)⟩, j, hj, ⟨((upd_no (by decide)).trans dd13), ((upd_no (by decide)).trans dd14), ((upd_no (by decide)).trans dd15), ((upd_no (by decide)).trans dd16)⟩, ⟨p0, p1, p2, p3, p4⟩⟩
                · rintro d ⟨x54, x55, x56, x57, x58, x59, x60, x61, x62, x63, x64, x65, x66, x67, x68, x69⟩ w' hI hd hdp KQ hK
                  dsimp only at hI
                  obtain ⟨hS, ⟨f0, f1, f2, f3, f4, f5, f6, f7, f8, f9, f10, f11, f12⟩, j, hj, ⟨dd13, dd14, dd15, dd16⟩, ⟨p0, p1, p2, p3, p4⟩⟩ := hI
                  obtain rfl := f12 (hdp 12 (by decide +kernel))
                  obtain rfl := ph_zero dd13 hd
                  have s := p0 rfl
                  clear p0 p1 p2 p3 p4 hj
                  have HG : Hid _ := And.intro hS s
                  clear hS s
                  have HF : Hid _ := And.intro (And.intro f0 (And.intro f1 (And.intro f2 (And.intro f3 (And.intro f4 (And.intro f5 (And.intro f6 (And.intro f7 (And.intro f8 (And.intro f9 (And.intro f10 (And.intro f11 f12)))))))))))) (And.intro dd13 (And.intro dd14 (And.intro dd15 dd16)))
                  clear f0 f1 f2 f3 f4 f5 f6 f7 f8 f9 f10 f11 f12 dd13 dd14 dd15 dd16 hdp hd
                  refine Opn.mk ?_
                  dsimp only
                  go_simp
                  obtain ⟨hS, s⟩ := HG.out
                  obtain ⟨⟨f0, f1, f2, f3, f4, f5, f6, f7, f8, f9, f10, f11, f12⟩, ⟨dd13, dd14, dd15, dd16⟩⟩ := HF.out
                  refine hK.out (x54, x55, x56, x57, x58, x59, x60, x61, x62, x63, x64, x65, .int .i64 gp, .slice (some ⟨w'.heap.size, 0, none⟩) 1 1, x68, x69) _ ⟨?sg, ⟨(fun h => f0 (upd_ne h (by decide))), (fun h => f1 (upd_ne h (by decide))), (fun h => f2 (upd_ne h (by decide))), (fun h => f3 (upd_ne h (by decide))), (fun h => f4 (upd_ne h (by decide))), (fun h => f5 (upd_ne h (by decide))), (fun h => f6 (upd_ne h (by decide))), (fun h => f7 (upd_ne h (by decide))), (fun h => f8 (upd_ne h (by decide))), (fun h => f9 (upd_ne h (by decide))), (fun h => f10 (upd_ne h (by decide))), (fun h => f11 (upd_ne h (by decide))), (fun _ => rfl)⟩, 1, by decide, ⟨(by simp [upd]), ((upd_no (by decide)).trans (dd14.trans (by decide))), ((upd_no (by decide)).trans (dd15.trans (by decide))), ((upd_no (by decide)).trans (dd16.trans (by decide)))⟩, ⟨(fun h => absurd h (by decide)), (fun _ => ?new), (fun h => absurd h (by decide)), (fun h => absurd h (by decide)), (fun h => absurd h (by decide))⟩⟩
                  case sg => exact hS.trans (Fr.of_below ((Below.refl _ _).alloc (Nat.le_refl _) _)) fun _ _ h => h
                  case new =>
                    exact ⟨grown_trans s.1 (grown_alloc _ _ _), own_below s.2 ((Below.refl _ _).alloc (Nat.le_refl _) _), _, rfl, BxA.new _ _ _, s.1.size⟩
                · rintro d ⟨x54, x55, x56, x57, x58, x59, x60, x61, x62, x63, x64, x65, x66, x67, x68, x69⟩ w' hI hd hdp KQ hK
                  dsimp only at hI
                  obtain ⟨hS, ⟨f0, f1, f2, f3, f4, f5, f6, f7, f8, f9, f10, f11, f12⟩, j, hj, ⟨dd13, dd14, dd15, dd16⟩, ⟨p0, p1, p2, p3, p4⟩⟩ := hI
                  obtain rfl := f9 (hdp 9 (by decide +kernel))
                  obtain rfl := f10 (hdp 10 (by decide +kernel))
                  obtain rfl := ph_eq (k := 0) dd14 hd dd13 (hdp 13 (by decide +kernel))
                  have s := p1 rfl
                  clear p0 p1 p2 p3 p4 hj
                  obtain ⟨sg0, so, g, ea, hx, hg⟩ := s
                  subst ea
                  have hne0 : (Value.slice pa np pc).ownBlock ≠ some g := fun q => by have h1 := (own_lt HOV.out _ q).2; omega
                  have kk := ins_int w' (Value.slice pa np pc) ps at' gp g so HAT.out.1 hx hne0 HPL.out
                  clear so hne0
                  have HG : Hid _ := And.intro hS (And.intro sg0 hg)
                  clear hS sg0 hx hg
                  have HF : Hid _ := And.intro (And.intro f0 (And.intro f1 (And.intro f2 (And.intro f3 (And.intro f4 (And.intro f5 (And.intro f6 (And.intro f7 (And.intro f8 (And.intro f9 (And.intro f10 (And.intro f11 f12)))))))))))) (And.intro dd13 (And.intro dd14 (And.intro dd15 dd16)))
                  clear f0 f1 f2 f3 f4 f5 f6 f7 f8 f9 f10 f11 f12 dd13 dd14 dd15 dd16 hdp hd
                  refine Opn.mk ?_
                  dsimp only
                  go_simp
                  go_wp2_with (first | (go_at_call 32; with_reducible refine kk.mono ?_; rintro e5 w5 ⟨v', rfl, rn⟩))
                  obtain ⟨hS, sg0, hg⟩ := HG.out
                  obtain ⟨⟨f0, f1, f2, f3, f4, f5, f6, f7, f8, f9, f10, f11, f12⟩, ⟨dd13, dd14, dd15, dd16⟩⟩ := HF.out
                  refine hK.out (x54, x55, x56, x57, x58, x59, x60, x61, x62, (Value.slice pa np pc), .int .i64 (at' : Nat), x65, x66, .slice (some ⟨g, 0, none⟩) 1 1, v', x69) _ ⟨?sg, ⟨(fun h => f0 (upd_ne h (by decide))), (fun h => f1 (upd_ne h (by decide))), (fun h => f2 (upd_ne h (by decide))), (fun h => f3 (upd_ne h (by decide))), (fun h => f4 (upd_ne h (by decide))), (fun h => f5 (upd_ne h (by decide))), (fun h => f6 (upd_ne h (by decide))), (fun h => f7 (upd_ne h (by decide))), (fun h => f8 (upd_ne h (by decide))), (fun _ => rfl), (fun _ => rfl), (fun h => f11 (upd_ne h (by decide))), (fun h => f12 (upd_ne h (by decide)))⟩, 2, by decide, ⟨((upd_no (by decide)).trans (dd13.trans (by decide))), (by simp [upd]), ((upd_no (by decide)).trans (dd15.trans (by decide))), ((upd_no (by decide)).trans (dd16.trans (by decide)))⟩, ⟨(fun h => absurd h (by decide)), (fun h => absurd h (by decide)), (fun _ => ?new), (fun h => absurd h (by decide)), (fun h => absurd h (by decide))⟩⟩
                  case sg => exact hS.trans (Fr.of_grown (F := fun i => (Value.slice pa np pc).ownBlock = some i ∨ i = m) rn.grown fun j hj => .inl (.inl hj)) fun _ _ h => h
                  case new =>
                    obtain ⟨va, vc, ev'⟩ := own_sl rn.own
                    subst ev'
                    refine ⟨va, _, vc, rfl, grown_trans sg0 rn.grown, fun r hr => (rn.blk r hr).imp id fun h => Nat.le_trans sg0.size h, ?_⟩
                    unfold insP
                    rw [← HAT.out.2]
                    exact rn.own
                · rintro d ⟨x54, x55, x56, x57, x58, x59, x60, x61, x62, x63, x64, x65, x66, x67, x68, x69⟩ w' hI hd hdp KQ hK
                  dsimp only at hI
                  obtain ⟨hS, ⟨f0, f1, f2, f3, f4, f5, f6, f7, f8, f9, f10, f11, f12⟩, j, hj, ⟨dd13, dd14, dd15, dd16⟩, ⟨p0, p1, p2, p3, p4⟩⟩ := hI
                  obtain rfl := f7 (hdp 7 (by decide +kernel))
                  obtain rfl := ph_eq (k := 1) dd15 hd dd14 (hdp 14 (by decide +kernel))
                  have s := p2 rfl
                  clear p0 p1 p2 p3 p4 hj
                  obtain ⟨va, vn, vc, ea, s⟩ := s
                  subst ea
                  have HG : Hid _ := And.intro hS s
                  clear hS s
                  have HF : Hid _ := And.intro (And.intro f0 (And.intro f1 (And.intro f2 (And.intro f3 (And.intro f4 (And.intro f5 (And.intro f6 (And.intro f7 (And.intro f8 (And.intro f9 (And.intro f10 (And.intro f11 f12)))))))))))) (And.intro dd13 (And.intro dd14 (And.intro dd15 dd16)))
                  clear f0 f1 f2 f3 f4 f5 f6 f7 f8 f9 f10 f11 f12 dd13 dd14 dd15 dd16 hdp hd
                  refine Opn.mk ?_
                  dsimp only
                  go_simp
                  obtain ⟨hS, s⟩ := HG.out
                  obtain ⟨⟨f0, f1, f2, f3, f4, f5, f6, f7, f8, f9, f10, f11, f12⟩, ⟨dd13, dd14, dd15, dd16⟩⟩ := HF.out
                  refine hK.out (x54, x55, x56, x57, x58, x59, x60, .int .i64 gc, x62, x63, x64, x65, x66, x67, .slice va vn vc, .agg #[.int .i64 gc, .slice va vn vc]) _ ⟨?sg, ⟨(fun h => f0 (upd_ne h (by decide))), (fun h => f1 (upd_ne h (by decide))), (fun h => f2 (upd_ne h (by decide))), (fun h => f3 (upd_ne h (by decide))), (fun h => f4 (upd_ne h (by decide))), (fun h => f5 (upd_ne h (by decide))), (fun h => f6 (upd_ne h (by decide))), (fun _ => rfl), (fun h => f8 (upd_ne h (by decide))), (fun h => f9 (upd_ne h (by decide))), (fun h => f10 (upd_ne h (by decide))), (fun h => f11 (upd_ne h (by decide))), (fun h => f12 (upd_ne h (by decide)))⟩, 3, by decide, ⟨((upd_no (by decide)).trans (dd13.trans (by decide))), ((upd_no (by decide)).trans (dd14.trans (by decide))), (by simp [upd]), ((upd_no (by decide)).trans (dd16.trans (by decide)))⟩, ⟨(fun h => absurd h (by decide)), (fun h => absurd h (by decide)), (fun h => absurd h (by decide)), (fun _ => ?new), (fun h => absurd h (by decide))⟩⟩
                  case sg => exact hS
                  case new =>
                    exact ⟨va, vn, vc, rfl, s⟩
                · rintro d ⟨x54, x55, x56, x57, x58, x59, x60, x61, x62, x63, x64, x65, x66, x67, x68, x69⟩ w' hI hd hdp KQ hK
                  dsimp only at hI
                  obtain ⟨hS, ⟨f0, f1, f2, f3, f4, f5, f6, f7, f8, f9, f10, f11, f12⟩, j, hj, ⟨dd13, dd14, dd15, dd16⟩, ⟨p0, p1, p2, p3, p4⟩⟩ := hI
                  obtain rfl := f3 (hdp 3 (by decide +kernel))
                  obtain rfl := f5 (hdp 5 (by decide +kernel))
                  obtain rfl := ph_eq (k := 2) dd16 hd dd15 (hdp 15 (by decide +kernel))
                  have s := p3 rfl
                  clear p0 p1 p2 p3 p4 hj
                  obtain ⟨va, vn, vc, ea, sg0, sg1, sg2⟩ := s
                  subst ea
                  obtain ⟨w6, hrun, r1, r2⟩ := World.ownsMap.update (HMV.out.kept sg0 HNM.out) law Try.underlying61 (by have := HFEW.out; unfold maxLen; exact Nat.lt_of_le_of_lt this (by decide)) (key_mk (k1, k2, k3) HB3.out) (sel_mk gc (flat_own sg2))
                  unfold kv at hrun
                  simp only at hrun
                  have HG : Hid _ := And.intro hS (And.intro sg0 (And.intro sg1 (And.intro sg2 (And.intro r1 r2))))
                  clear hS sg0 sg1 sg2 r1 r2
                  have HF : Hid _ := And.intro (And.intro f0 (And.intro f1 (And.intro f2 (And.intro f3 (And.intro f4 (And.intro f5 (And.intro f6 (And.intro f7 (And.intro f8 (And.intro f9 (And.intro f10 (And.intro f11 f12)))))))))))) (And.intro dd13 (And.intro dd14 (And.intro dd15 dd16)))
                  clear f0 f1 f2 f3 f4 f5 f6 f7 f8 f9 f10 f11 f12 dd13 dd14 dd15 dd16 hdp hd
                  refine Opn.mk ?_
                  dsimp only
                  go_simp
                  obtain ⟨hS, sg0, sg1, sg2, r1, r2⟩ := HG.out
                  obtain ⟨⟨f0, f1, f2, f3, f4, f5, f6, f7, f8, f9, f10, f11, f12⟩, ⟨dd13, dd14, dd15, dd16⟩⟩ := HF.out
                  refine hK.out (x54, x55, x56, .map (some m), x58, .agg #[.int .i64 k1, .int .i64 k2, .int .i64 k3], x60, x61, x62, x63, x64, x65, x66, x67, x68, .agg #[.int .i64 gc, .slice va vn vc]) _ ⟨?sg, ⟨(fun h => f0 (upd_ne h (by decide))), (fun h => f1 (upd_ne h (by decide))), (fun h => f2 (upd_ne h (by decide))), (fun _ => rfl), (fun h => f4 (upd_ne h (by decide))), (fun _ => rfl), (fun h => f6 (upd_ne h (by decide))), (fun h => f7 (upd_ne h (by decide))), (fun h => f8 (upd_ne h (by decide))), (fun h => f9 (upd_ne h (by decide))), (fun h => f10 (upd_ne h (by decide))), (fun h => f11 (upd_ne h (by decide))), (fun h => f12 (upd_ne h (by decide)))⟩, 4, by decide, ⟨((upd_no (by decide)).trans (dd13.trans (by decide))), ((upd_no (by decide)).trans (dd14.trans (by decide))), ((upd_no (by decide)).trans (dd15.trans (by decide))), (by simp [upd])⟩, ⟨(fun h => absurd h (by decide)), (fun h => absurd h (by decide)), (fun h => absurd h (by decide)), (fun h => absurd h (by decide)), (fun _ => ?new)⟩⟩
                  case sg => exact hS.trans (Fr.of_grown (F := fun i => (Value.slice pa np pc).ownBlock = some i ∨ i = m) r2 fun j hj => .inl (.inr (Option.some.inj hj).symm)) fun _ _ h => h
                  case new =>
                    exact ⟨_, tl_put HZV.out HFN.out HGC.out HB3.out sg0 sg2 sg1 HMV.out HMD.out r1 r2⟩
              case he1003 =>
                rintro d ⟨x54, x55, x56, x57, x58, x59, x60, x61, x62, x63, x64, x65, x66, x67, x68, x69⟩ w' hall hI
                dsimp only at hI
                obtain ⟨hS, ⟨f0, f1, f2, f3, f4, f5, f6, f7, f8, f9, f10, f11, f12⟩, j, hj, ⟨dd13, dd14, dd15, dd16⟩, ⟨p0, p1, p2, p3, p4⟩⟩ := hI
                obtain rfl := ph_end (k := 3) hj dd16 (hall 16 (by decide))
                have s := p4 rfl

                clear hall hj f0 f1 f2 f3 f4 f5 f6 f7 f8 f9 f10 f11 f12 dd13 dd14 dd15 dd16 p0 p1 p2 p3 p4
                obtain ⟨v', q⟩ := s
                have HT : Hid _ := q
                clear q hS
                try dsimp only
                go_wp2_with fail
                go_ret
                exact HEND.out v' _ HT.out
            case true =>
              have hb2 : (c != gc) = false := by simp [HGC.out rfl]
              clear hform
              go_upto_region 11 with fail
              clear ct0 cs4 hb2
              try dsimp only
              refine wp_region_invF (β := Value × Value × Value × Value × Value × Value × Value × Value × Value × Value × Value × Value × Value × Value × Value × Value) (fun a0 xq => ((((((((((((((((a0.put (some 54) (xq.1)).put (some 55) (xq.2.1)).put (some 56) (xq.2.2.1)).put (some 57) (xq.2.2.2.1)).put (some 58) (xq.2.2.2.2.1)).put (some 59) (xq.2.2.2.2.2.1)).put (some 60) (xq.2.2.2.2.2.2.1)).put (some 61) (xq.2.2.2.2.2.2.2.1)).put (some 62) (xq.2.2.2.2.2.2.2.2.1)).put (some 63) (xq.2.2.2.2.2.2.2.2.2.1)).put (some 64) (xq.2.2.2.2.2.2.2.2.2.2.1)).put (some 65) (xq.2.2.2.2.2.2.2.2.2.2.2.1)).put (some 66) (xq.2.2.2.2.2.2.2.2.2.2.2.2.1)).put (some 67) (xq.2.2.2.2.2.2.2.2.2.2.2.2.2.1)).put (some 68) (xq.2.2.2.2.2.2.2.2.2.2.2.2.2.2.1)).put (some 69) (xq.2.2.2.2.2.2.2.2.2.2.2.2.2.2.2))) ?fr1004 (fun xq d w' => (Fr (fun i => (Value.slice pa np pc).ownBlock = some i ∨ i = m) V w') ∧ ((d 0 = true → (xq.1) = .pointer (some ⟨t, 0, none⟩)) ∧ (d 1 = true → (xq.2.1) = .pointer (some ⟨t, 0, none⟩)) ∧ (d 2 = true → (xq.2.2.1) = .pointer (some ⟨t, 0, none⟩)) ∧ (d 3 = true → (xq.2.2.2.1) = .map (some m)) ∧ (d 4 = true → (xq.2.2.2.2.1) = .agg #[.int .i64 k1, .int .i64 k2, .int .i64 k3, .int .i64 gp, .int .i64 gc]) ∧ (d 5 = true → (xq.2.2.2.2.2.1) = .agg #[.int .i64 k1, .int .i64 k2, .int .i64 k3]) ∧ (d 6 = true → (xq.2.2.2.2.2.2.1) = .pointer (some ⟨b3, 4, none⟩)) ∧ (d 7 = true → (xq.2.2.2.2.2.2.2.1) = .int .i64 gc) ∧ (d 8 = true → (xq.2.2.2.2.2.2.2.2.1) = .pointer (some ⟨gb, 1, none⟩)) ∧ (d 9 = true → (xq.2.2.2.2.2.2.2.2.2.1) = (Value.slice pa np pc)) ∧ (d 10 = true → (xq.2.2.2.2.2.2.2.2.2.2.1) = .int .i64 (at' : Nat)) ∧ (d 11 = true → (xq.2.2.2.2.2.2.2.2.2.2.2.1) = .pointer (some ⟨b3, 3, none⟩)) ∧ (d 12 = true → (xq.2.2.2.2.2.2.2.2.2.2.2.2.1) = .int .i64 gp)) ∧ ∃ j : Nat, j ≤ 4 ∧ (d 13 = decide (0 < j) ∧ d 14 = decide (1 < j) ∧ d 15 = decide (2 < j) ∧ d 16 = decide (3 < j)) ∧ ((j = 0 → V.grownBy w' (Value.slice pa np pc).ownBlock ∧ OwI w' (Value.slice pa np pc) ps) ∧ (j = 1 → V.grownBy w' (Value.slice pa np pc).ownBlock ∧ OwI w' (Value.slice pa np pc) ps ∧ ∃ g, (xq.2.2.2.2.2.2.2.2.2.2.2.2.2.1) = .slice (some ⟨g, 0, none⟩) 1 1 ∧ BxA w' g 3 #[.int .i64 gp] ∧ V.heap.size ≤ g) ∧ (j = 2 → ∃ va vn vc, (xq.2.2.2.2.2.2.2.2.2.2.2.2.2.2.1) = .slice va vn vc ∧ V.grownBy w' (Value.slice pa np pc).ownBlock ∧ (∀ r, (Value.slice va vn vc).ownBlock = some r → (Value.slice pa np pc).ownBlock = some r ∨ V.heap.size ≤ r) ∧ OwI w' (Value.slice va vn vc) (insP ps gp)) ∧ (j = 3 → ∃ va vn vc, (xq.2.2.2.2.2.2.2.2.2.2.2.2.2.2.2) = .agg #[.int .i64 gc, .slice va vn vc] ∧ V.grownBy w' (Value.slice pa np pc).ownBlock ∧ (∀ r, (Value.slice va vn vc).ownBlock = some r → (Value.slice pa np pc).ownBlock = some r ∨ V.heap.size ≤ r) ∧ OwI w' (Value.slice va vn vc) (insP ps gp)) ∧ (j = 4 → ∃ v' : Value, Tw V w' t (fun i => F i ∨ i = m) (if true then updE s (k1, k2, k3) (insP ps gp) else s ++ [((k1, k2, k3), gc, insP ps gp)]) (fun i => (fun i => F i ∨ i = m) i ∨ v'.ownBlock = some i)))) ?lay1004 mixed (by kernel_rfl) ?h01004 ?hs1004 ?he1004
              case lay1004 =>
                intro xq
                simp only [Act.put, List.setIfInBounds_toArray, List.set_cons_zero, List.set_cons_succ]
                rfl
              case h01004 =>
                refine ⟨(undef, undef, undef, undef, undef, undef, undef, undef, undef, undef, undef, undef, undef, undef, undef, undef), rfl, ?sig1004, ⟨(fun h => by cases h), (fun h => by cases h), (fun h => by cases h), (fun h => by cases h), (fun h => by cases h), (fun h => by cases h), (fun h => by cases h), (fun h => by cases h), (fun h => by cases h), (fun h => by cases h), (fun h => by cases h), (fun h => by cases h), (fun h => by cases h)⟩, 0, Nat.zero_le _, ⟨rfl, rfl, rfl, rfl⟩, ?S01004, (fun h => by cases h), (fun h => by cases h), (fun h => by cases h), (fun h => by cases h)⟩
                case sig1004 => exact hSig0
                case S01004 => exact fun _ => hS00
              case hs1004 =>
                refine ⟨?_, ?_, ?_, ?_, ?_, ?_, ?_, ?_, ?_, ?_, ?_, ?_, ?_, ?_, ?_, ?_, ?_, trivial⟩
                · rintro d ⟨x54, x55, x56, x57, x58, x59, x60, x61, x62, x63, x64, x65, x66, x67, x68, x69⟩ w' hI hd hdp KQ hK
                  dsimp only at hI
                  obtain ⟨hS, ⟨f0, f1, f2, f3, f4, f5, f6, f7, f8, f9, f10, f11, f12⟩, j, hj, ⟨dd13, dd14, dd15, dd16⟩, ⟨p0, p1, p2, p3, p4⟩⟩ := hI
                  have HF : Hid _ := And.intro hS (And.intro (And.intro f0 (And.intro f1 (And.intro f2 (And.intro f3 (And.intro f4 (And.intro f5 (And.intro f6 (And.intro f7 (And.intro f8 (And.intro f9 (And.intro f10 (And.intro f11 f12)))))))))))) (And.intro hj (And.intro (And.intro dd13 (And.intro dd14 (And.intro dd15 dd16))) (And.intro p0 (And.intro p1 (And.intro p2 (And.intro p3 p4)))))))
                  clear hS f0 f1 f2 f3 f4 f5 f6 f7 f8 f9 f10 f11 f12 hj dd13 dd14 dd15 dd16 p0 p1 p2 p3 p4 hdp hd
                  refine Opn.mk ?_
                  dsimp only
                  go_simp
                  obtain ⟨hS, ⟨f0, f1, f2, f3, f4, f5, f6, f7, f8, f9, f10, f11, f12⟩, hj, ⟨dd13, dd14, dd15, dd16⟩, ⟨p0, p1, p2, p3, p4⟩⟩ := HF.out
                  exact hK.out (.pointer (some ⟨t, 0, none⟩), x55, x56, x57, x58, x59, x60, x61, x62, x63, x64, x65, x66, x67, x68, x69) _ ⟨hS, ⟨(fun _ => rfl), (fun h => f1 (upd_ne h (by decide))), (fun h => f2 (upd_ne h (by decide))), (fun h => f3 (upd_ne h (by decide))), (fun h => f4 (upd_ne h (by decide))), (fun h => f5 (upd_ne h (by decide))), (fun h => f6 (upd_ne h (by decide))), (fun h => f7 (upd_ne h (by decide))), (fun h => f8 (upd_ne h (by decide))), (fun h => f9 (upd_ne h (by decide))), (fun h => f10 (upd_ne h (by decide))), (fun h => f11 (upd_ne h (by decide))), (fun h => f12 (upd_ne h (by decide)))⟩, j, hj, ⟨((upd_no (by decide)).trans dd13), ((upd_no (by decide)).trans dd14), ((upd_no (by decide)).trans dd15), ((upd_no (by decide)).trans dd16)⟩, ⟨p0, p1, p2, p3, p4⟩⟩
                · rintro d ⟨x54, x55, x56, x57, x58, x59, x60, x61, x62, x63, x64, x65, x66, x67, x68, x69⟩ w' hI hd hdp KQ hK
                  dsimp only at hI
                  obtain ⟨hS, ⟨f0, f1, f2, f3, f4, f5, f6, f7, f8, f9, f10, f11, f12⟩, j, hj, ⟨dd13, dd14, dd15, dd16⟩, ⟨p0, p1, p2, p3, p4⟩⟩ := hI
                  obtain rfl := f0 (hdp 0 (by decide +kernel))
                  have HF : Hid _ := And.intro hS (And.intro (And.intro f0 (And.intro f1 (And.intro f2 (And.intro f3 (And.intro f4 (And.intro f5 (And.intro f6 (And.intro f7 (And.intro f8 (And.intro f9 (And.intro f10 (And.intro f11 f12)))))))))))) (And.intro hj (And.intro (And.intro dd13 (And.intro dd14 (And.intro dd15 dd16))) (And.intro p0 (And.intro p1 (And.intro p2 (And.intro p3 p4)))))))
                  clear hS f0 f1 f2 f3 f4 f5 f6 f7 f8 f9 f10 f11 f12 hj dd13 dd14 dd15 dd16 p0 p1 p2 p3 p4 hdp hd
                  refine Opn.mk ?_
                  dsimp only
                  go_simp
                  obtain ⟨hS, ⟨f0, f1, f2, f3, f4, f5, f6, f7, f8, f9, f10, f11, f12⟩, hj, ⟨dd13, dd14, dd15, dd16⟩, ⟨p0, p1, p2, p3, p4⟩⟩ := HF.out
                  exact hK.out (.pointer (some ⟨t, 0, none⟩), .pointer (some ⟨t, 0, none⟩), x56, x57, x58, x59, x60, x61, x62, x63, x64, x65, x66, x67, x68, x69) _ ⟨hS, ⟨(fun _ => rfl), (fun _ => rfl), (fun h => f2 (upd_ne h (by decide))), (fun h => f3 (upd_ne h (by decide))), (fun h => f4 (upd_ne h (by decide))), (fun h => f5 (upd_ne h (by decide))), (fun h => f6 (upd_ne h (by decide))), (fun h => f7 (upd_ne h (by decide))), (fun h => f8 (upd_ne h (by decide))), (fun h => f9 (upd_ne h (by decide))), (fun h => f10 (upd_ne h (by decide))), (fun h => f11 (upd_ne h (by decide))), (fun h => f12 (upd_ne h (by decide)))⟩, j, hj, ⟨((upd_no (by decide)).trans dd13), ((upd_no (by decide)).trans dd14), ((upd_no (by decide)).trans dd15), ((upd_no (by decide)).trans dd16)⟩, ⟨p0, p1, p2, p3, p4⟩⟩
                · rintro d ⟨x54, x55, x56, x57, x58, x59, x60, x61, x62, x63, x64, x65, x66, x67, x68, x69⟩ w' hI hd hdp KQ hK
                  dsimp only at hI
                  obtain ⟨hS, ⟨f0, f1, f2, f3, f4, f5, f6, f7, f8, f9, f10, f11, f12⟩, j, hj, ⟨dd13, dd14, dd15, dd16⟩, ⟨p0, p1, p2, p3, p4⟩⟩ := hI
                  obtain rfl := f1 (hdp 1 (by decide +kernel))
                  have HF : Hid _ := And.intro hS (And.intro (And.intro f0 (And.intro f1 (And.intro f2 (And.intro f3 (And.intro f4 (And.intro f5 (And.intro f6 (And.intro f7 (And.intro f8 (And.intro f9 (And.intro f10 (And.intro f11 f12)))))))))))) (And.intro hj (And.intro (And.intro dd13 (And.intro dd14 (And.intro dd15 dd16))) (And.intro p0 (And.intro p1 (And.intro p2 (And.intro p3 p4)))))))
                  clear hS f0 f1 f2 f3 f4 f5 f6 f7 f8 f9 f10 f11 f12 hj dd13 dd14 dd15 dd16 p0 p1 p2 p3 p4 hdp hd
                  refine Opn.mk ?_
                  dsimp only
                  go_simp
                  obtain ⟨hS, ⟨f0, f1, f2, f3, f4, f5, f6, f7, f8, f9, f10, f11, f12⟩, hj, ⟨dd13, dd14, dd15, dd16⟩, ⟨p0, p1, p2, p3, p4⟩⟩ := HF.out
                  exact hK.out (x54, .pointer (some ⟨t, 0, none⟩), .pointer (some ⟨t, 0, none⟩), x57, x58, x59, x60, x61, x62, x63, x64, x65, x66, x67, x68, x69) _ ⟨hS, ⟨(fun h => f0 (upd_ne h (by decide))), (fun _ => rfl), (fun _ => rfl), (fun h => f3 (upd_ne h (by decide))), (fun h => f4 (upd_ne h (by decide))), (fun h => f5 (upd_ne h (by decide))), (fun h => f6 (upd_ne h (by decide))), (fun h => f7 (upd_ne h (by decide))), (fun h => f8 (upd_ne h (by decide))), (fun h => f9 (upd_ne h (by decide))), (fun h => f10 (upd_ne h (by decide))), (fun h => f11 (upd_ne h (by decide))), (fun h => f12 (upd_ne h (by decide)))⟩, j, hj, ⟨((upd_no (by decide)).trans dd13), ((upd_no (by decide)).trans dd14), ((upd_no (by decide)).trans dd15), ((upd_no (by decide)).trans dd16)⟩, ⟨p0, p1, p2, p3, p4⟩⟩
                · rintro d ⟨x54, x55, x56, x57, x58, x59, x60, x61, x62, x63, x64, x65, x66, x67, x68, x69⟩ w' hI hd hdp KQ hK
                  dsimp only at hI
                  obtain ⟨hS, ⟨f0, f1, f2, f3, f4, f5, f6, f7, f8, f9, f10, f11, f12⟩, j, hj, ⟨dd13, dd14, dd15, dd16⟩, ⟨p0, p1, p2, p3, p4⟩⟩ := hI
                  obtain rfl := f2 (hdp 2 (by decide +kernel))
                  have cc := HQD.out.1 w' hS
                  have HF : Hid _ := And.intro hS (And.intro (And.intro f0 (And.intro f1 (And.intro f2 (And.intro f3 (And.intro f4 (And.intro f5 (And.intro f6 (And.intro f7 (And.intro f8 (And.intro f9 (And.intro f10 (And.intro f11 f12)))))))))))) (And.intro hj (And.intro (And.intro dd13 (And.intro dd14 (And.intro dd15 dd16))) (And.intro p0 (And.intro p1 (And.intro p2 (And.intro p3 p4)))))))
                  clear hS f0 f1 f2 f3 f4 f5 f6 f7 f8 f9 f10 f11 f12 hj dd13 dd14 dd15 dd16 p0 p1 p2 p3 p4 hdp hd
                  refine Opn.mk ?_
                  dsimp only
                  go_simp
                  obtain ⟨hS, ⟨f0, f1, f2, f3, f4, f5, f6, f7, f8, f9, f10, f11, f12⟩, hj, ⟨dd13, dd14, dd15, dd16⟩, ⟨p0, p1, p2, p3, p4⟩⟩ := HF.out
                  exact hK.out (x54, x55, .pointer (some ⟨t, 0, none⟩), .map (some m), x58, x59, x60, x61, x62, x63, x64, x65, x66, x67, x68, x69) _ ⟨hS, ⟨(fun h => f0 (upd_ne h (by decide))), (fun h => f1 (upd_ne h (by decide))), (fun _ => rfl), (fun _ => rfl), (fun h => f4 (upd_ne h (by decide))), (fun h => f5 (upd_ne h (by decide))), (fun h => f6 (upd_ne h (by decide))), (fun h => f7 (upd_ne h (by decide))), (fun h => f8 (upd_ne h (by decide))), (fun h => f9 (upd_ne h (by decide))), (fun h => f10 (upd_ne h (by decide))), (fun h => f11 (upd_ne h (by decide))), (fun h => f12 (upd_ne h (by decide)))⟩, j, hj, ⟨((upd_no (by decide)).trans dd13), ((upd_no (by decide)).trans dd14), ((upd_no (by decide)).trans dd15), ((upd_no (by decide)).trans dd16)⟩, ⟨p0, p1, p2, p3, p4⟩⟩
                · rintro d ⟨x54, x55, x56, x57, x58, x59, x60, x61, x62, x63, x64, x65, x66, x67, x68, x69⟩ w' hI hd hdp KQ hK
                  dsimp only at hI
                  obtain ⟨hS, ⟨f0, f1, f2, f3, f4, f5, f6, f7, f8, f9, f10, f11, f12⟩, j, hj, ⟨dd13, dd14, dd15, dd16⟩, ⟨p0, p1, p2, p3, p4⟩⟩ := hI
                  obtain ⟨cs0, cs1, cs2, cs3, cs4⟩ := HQD.out.2.1 w' hS
                  have HF : Hid _ := And.intro hS (And.intro (And.intro f0 (And.intro f1 (And.intro f2 (And.intro f3 (And.intro f4 (And.intro f5 (And.intro f6 (And.intro f7 (And.intro f8 (And.intro f9 (And.intro f10 (And.intro f11 f12)))))))))))) (And.intro hj (And.intro (And.intro dd13 (And.intro dd14 (And.intro dd15 dd16))) (And.intro p0 (And.intro p1 (And.intro p2 (And.intro p3 p4)))))))
                  clear hS f0 f1 f2 f3 f4 f5 f6 f7 f8 f9 f10 f11 f12 hj dd13 dd14 dd15 dd16 p0 p1 p2 p3 p4 hdp hd
                  refine Opn.mk ?_
                  dsimp only
                  go_simp
                  obtain ⟨hS, ⟨f0, f1, f2, f3, f4, f5, f6, f7, f8, f9, f10, f11, f12⟩, hj, ⟨dd13, dd14, dd15, dd16⟩, ⟨p0, p1, p2, p3, p4⟩⟩ := HF.out
                  exact hK.out (x54, x55, x56, x57, .agg #[.int .i64 k1, .int .i64 k2, .int .i64 k3, .int .i64 gp, .int .i64 gc], x59, x60, x61, x62, x63, x64, x65, x66, x67, x68, x69) _ ⟨hS, ⟨(fun h => f0 (upd_ne h (by decide))), (fun h => f1 (upd_ne h (by decide))), (fun h => f2 (upd_ne h (by decide))), (fun h => f3 (upd_ne h (by decide))), (fun _ => rfl), (fun h => f5 (upd_ne h (by decide))), (fun h => f6 (upd_ne h (by decide))), (fun h => f7 (upd_ne h (by decide))), (fun h => f8 (upd_ne h (by decide))), (fun h => f9 (upd_ne h (by decide))), (fun h => f10 (upd_ne h (by decide))), (fun h => f11 (upd_ne h (by decide))), (fun h => f12 (upd_ne h (by decide)))⟩, j, hj, ⟨((upd_no (by decide)).trans dd13), ((upd_no (by decide)).trans dd14), ((upd_no (by decide)).trans dd15), ((upd_no (by decide)).trans dd16)⟩, ⟨p0, p1, p2, p3, p4⟩⟩
                · rintro d ⟨x54, x55, x56, x57, x58, x59, x60, x61, x62, x63, x64, x65, x66, x67, x68, x69⟩ w' hI hd hdp KQ hK
                  dsimp only at hI
                  obtain ⟨hS, ⟨f0, f1, f2, f3, f4, f5, f6, f7, f8, f9, f10, f11, f12⟩, j, hj, ⟨dd13, dd14, dd15, dd16⟩, ⟨p0, p1, p2, p3, p4⟩⟩ := hI
                  obtain rfl := f4 (hdp 4 (by decide +kernel))
                  have kk := keyOf_any w' k1 k2 k3 gp gc
                  unfold kv at kk
                  simp only at kk
                  have HF : Hid _ := And.intro hS (And.intro (And.intro f0 (And.intro f1 (And.intro f2 (And.intro f3 (And.intro f4 (And.intro f5 (And.intro f6 (And.intro f7 (And.intro f8 (And.intro f9 (And.intro f10 (And.intro f11 f12)))))))))))) (And.intro hj (And.intro (And.intro dd13 (And.intro dd14 (And.intro dd15 dd16))) (And.intro p0 (And.intro p1 (And.intro p2 (And.intro p3 p4)))))))
                  clear hS f0 f1 f2 f3 f4 f5 f6 f7 f8 f9 f10 f11 f12 hj dd13 dd14 dd15 dd16 p0 p1 p2 p3 p4 hdp hd
                  refine Opn.mk ?_
                  dsimp only
                  go_simp
                  go_wp2_with (first | (go_at_call 30; with_reducible refine kk.mono ?_; rintro e5 w5 ⟨rfl, g5⟩))
                  obtain ⟨hS, ⟨f0, f1, f2, f3, f4, f5, f6, f7, f8, f9, f10, f11, f12⟩, hj, ⟨dd13, dd14, dd15, dd16⟩, ⟨p0, p1, p2, p3, p4⟩⟩ := HF.out
                  refine hK.out (x54, x55, x56, x57, .agg #[.int .i64 k1, .int .i64 k2, .int .i64 k3, .int .i64 gp, .int .i64 gc], .agg #[.int .i64 k1, .int .i64 k2, .int .i64 k3], x60, x61, x62, x63, x64, x65, x66, x67, x68, x69) _ ⟨?sg, ⟨(fun h => f0 (upd_ne h (by decide))), (fun h => f1 (upd_ne h (by decide))), (fun h => f2 (upd_ne h (by decide))), (fun h => f3 (upd_ne h (by decide))), (fun _ => rfl), (fun _ => rfl), (fun h => f6 (upd_ne h (by decide))), (fun h => f7 (upd_ne h (by decide))), (fun h => f8 (upd_ne h (by decide))), (fun h => f9 (upd_ne h (by decide))), (fun h => f10 (upd_ne h (by decide))), (fun h => f11 (upd_ne h (by decide))), (fun h => f12 (upd_ne h (by decide)))⟩, j, hj, ⟨((upd_no (by decide)).trans dd13), ((upd_no (by decide)).trans dd14), ((upd_no (by decide)).trans dd15), ((upd_no (by decide)).trans dd16)⟩, ⟨(fun hj0 => ?u0), (fun hj0 => ?u1), (fun hj0 => ?u2), (fun hj0 => ?u3), (fun hj0 => ?u4)⟩⟩
                  case sg => exact hS.trans (Fr.of_below g5.below) fun _ _ h => h
                  case u0 =>
                    have s := p0 hj0
                    exact ⟨grown_trans s.1 (grown_of_below g5.below _), own_below s.2 g5.below⟩
                  case u1 =>
                    have s := p1 hj0
                    obtain ⟨sg0, so, g, ea, hx, hg⟩ := s
                    exact ⟨grown_trans sg0 (grown_of_below g5.below _), own_below so g5.below, g, ea, hx.up g5.below, hg⟩
                  case u2 =>
                    have s := p2 hj0
                    obtain ⟨va, vn, vc, ea, sg0, sg1, sg2⟩ := s
                    exact ⟨va, vn, vc, ea, grown_trans sg0 (grown_of_below g5.below _), sg1, own_below sg2 g5.below⟩
                  case u3 =>
                    have s := p3 hj0
                    obtain ⟨va, vn, vc, ea, sg0, sg1, sg2⟩ := s
                    exact ⟨va, vn, vc, ea, grown_trans sg0 (grown_of_below g5.below _), sg1, own_below sg2 g5.below⟩
                  case u4 =>
                    have s := p4 hj0
                    obtain ⟨v', q⟩ := s
                    exact ⟨v', q.grow g5.below⟩
                · rintro d ⟨x54, x55, x56, x57, x58, x59, x60, x61, x62, x63, x64, x65, x66, x67, x68, x69⟩ w' hI hd hdp KQ hK
                  dsimp only at hI
                  obtain ⟨hS, ⟨f0, f1, f2, f3, f4, f5, f6, f7, f8, f9, f10, f11, f12⟩, j, hj, ⟨dd13, dd14, dd15, dd16⟩, ⟨p0, p1, p2, p3, p4⟩⟩ := hI
                  have HF : Hid _ := And.intro hS (And.intro (And.intro f0 (And.intro f1 (And.intro f2 (And.intro f3 (And.intro f4 (And.intro f5 (And.intro f6 (And.intro f7 (And.intro f8 (And.intro f9 (And.intro f10 (And.intro f11 f12)))))))))))) (And.intro hj (And.intro (And.intro dd13 (And.intro dd14 (And.intro dd15 dd16))) (And.intro p0 (And.intro p1 (And.intro p2 (And.intro p3 p4)))))))
                  clear hS f0 f1 f2 f3 f4 f5 f6 f7 f8 f9 f10 f11 f12 hj dd13 dd14 dd15 dd16 p0 p1 p2 p3 p4 hdp hd
                  refine Opn.mk ?_
                  dsimp only
                  go_simp
                  obtain ⟨hS, ⟨f0, f1, f2, f3, f4, f5, f6, f7, f8, f9, f10, f11, f12⟩, hj, ⟨dd13, dd14, dd15, dd16⟩, ⟨p0, p1, p2, p3, p4⟩⟩ := HF.out
                  exact hK.out (x54, x55, x56, x57, x58, x59, .pointer (some ⟨b3, 4, none⟩), x61, x62, x63, x64, x65, x66, x67, x68, x69) _ ⟨hS, ⟨(fun h => f0 (upd_ne h (by decide))), (fun h => f1 (upd_ne h (by decide))), (fun h => f2 (upd_ne h (by decide))), (fun h => f3 (upd_ne h (by decide))), (fun h => f4 (upd_ne h (by decide))), (fun h => f5 (upd_ne h (by decide))), (fun _ => rfl), (fun h => f7 (upd_ne h (by decide))), (fun h => f8 (upd_ne h (by decide))), (fun h => f9 (upd_ne h (by decide))), (fun h => f10 (upd_ne h (by decide))), (fun h => f11 (upd_ne h (by decide))), (fun h => f12 (upd_ne h (by decide)))⟩, j, hj, ⟨((upd_no (by decide)).trans dd13), ((upd_no (by decide)).trans dd14), ((upd_no (by decide)).trans dd15), ((upd_no (by decide)).trans dd16)⟩, ⟨p0, p1, p2, p3, p4⟩⟩
                · rintro d ⟨x54, x55, x56, x57, x58, x59, x60, x61, x62, x63, x64, x65, x66, x67, x68, x69⟩ w' hI hd hdp KQ hK
                  dsimp only at hI
                  obtain ⟨hS, ⟨f0, f1, f2, f3, f4, f5, f6, f7, f8, f9, f10, f11, f12⟩, j, hj, ⟨dd13, dd14, dd15, dd16⟩, ⟨p0, p1, p2, p3, p4⟩⟩ := hI
                  obtain rfl := f6 (hdp 6 (by decide +kernel))
                  obtain ⟨cs0, cs1, cs2, cs3, cs4⟩ := HQD.out.2.1 w' hS
                  have HF : Hid _ := And.intro hS (And.intro (And.intro f0 (And.intro f1 (And.intro f2 (And.intro f3 (And.intro f4 (And.intro f5 (And.intro f6 (And.intro f7 (And.intro f8 (And.intro f9 (And.intro f10 (And.intro f11 f12)))))))))))) (And.intro hj (And.intro (And.intro dd13 (And.intro dd14 (And.intro dd15 dd16))) (And.intro p0 (And.intro p1 (And.intro p2 (And.intro p3 p4)))))))
                  clear hS f0 f1 f2 f3 f4 f5 f6 f7 f8 f9 f10 f11 f12 hj dd13 dd14 dd15 dd16 p0 p1 p2 p3 p4 hdp hd
                  refine Opn.mk ?_
                  dsimp only
                  go_simp
                  obtain ⟨hS, ⟨f0, f1, f2, f3, f4, f5, f6, f7, f8, f9, f10, f11, f12⟩, hj, ⟨dd13, dd14, dd15, dd16⟩, ⟨p0, p1, p2, p3, p4⟩⟩ := HF.out
                  exact hK.out (x54, x55, x56, x57, x58, x59, .pointer (some ⟨b3, 4, none⟩), .int .i64 gc, x62, x63, x64, x65, x66, x67, x68, x69) _ ⟨hS, ⟨(fun h => f0 (upd_ne h (by decide))), (fun h => f1 (upd_ne h (by decide))), (fun h => f2 (upd_ne h (by decide))), (fun h => f3 (upd_ne h (by decide))), (fun h => f4 (upd_ne h (by decide))), (fun h => f5 (upd_ne h (by decide))), (fun _ => rfl), (fun _ => rfl), (fun h => f8 (upd_ne h (by decide))), (fun h => f9 (upd_ne h (by decide))), (fun h => f10 (upd_ne h (by decide))), (fun h => f11 (upd_ne h (by decide))), (fun h => f12 (upd_ne h (by decide)))⟩, j, hj, ⟨((upd_no (by decide)).trans dd13), ((upd_no (by decide)).trans dd14), ((upd_no (by decide)).trans dd15), ((upd_no (by decide)).trans dd16)⟩, ⟨p0, p1, p2, p3, p4⟩⟩
                · rintro d ⟨x54, x55, x56, x57, x58, x59, x60, x61, x62, x63, x64, x65, x66, x67, x68, x69⟩ w' hI hd hdp KQ hK
                  dsimp only at hI
                  obtain ⟨hS, ⟨f0, f1, f2, f3, f4, f5, f6, f7, f8, f9, f10, f11, f12⟩, j, hj, ⟨dd13, dd14, dd15, dd16⟩, ⟨p0, p1, p2, p3, p4⟩⟩ := hI
                  have HF : Hid _ := And.intro hS (And.intro (And.intro f0 (And.intro f1 (And.intro f2 (And.intro f3 (And.intro f4 (And.intro f5 (And.intro f6 (And.intro f7 (And.intro f8 (And.intro f9 (And.intro f10 (And.intro f11 f12)))))))))))) (And.intro hj (And.intro (And.intro dd13 (And.intro dd14 (And.intro dd15 dd16))) (And.intro p0 (And.intro p1 (And.intro p2 (And.intro p3 p4)))))))
                  clear hS f0 f1 f2 f3 f4 f5 f6 f7 f8 f9 f10 f11 f12 hj dd13 dd14 dd15 dd16 p0 p1 p2 p3 p4 hdp hd
                  refine Opn.mk ?_
                  dsimp only
                  go_simp
                  obtain ⟨hS, ⟨f0, f1, f2, f3, f4, f5, f6, f7, f8, f9, f10, f11, f12⟩, hj, ⟨dd13, dd14, dd15, dd16⟩, ⟨p0, p1, p2, p3, p4⟩⟩ := HF.out
                  exact hK.out (x54, x55, x56, x57, x58, x59, x60, x61, .pointer (some ⟨gb, 1, none⟩), x63, x64, x65, x66, x67, x68, x69) _ ⟨hS, ⟨(fun h => f0 (upd_ne h (by decide))), (fun h => f1 (upd_ne h (by decide))), (fun h => f2 (upd_ne h (by decide))), (fun h => f3 (upd_ne h (by decide))), (fun h => f4 (upd_ne h (by decide))), (fun h => f5 (upd_ne h (by decide))), (fun h => f6 (upd_ne h (by decide))), (fun h => f7 (upd_ne h (by decide))), (fun _ => rfl), (fun h => f9 (upd_ne h (by decide))), (fun h => f10 (upd_ne h (by decide))), (fun h => f11 (upd_ne h (by decide))), (fun h => f12 (upd_ne h (by decide)))⟩, j, hj, ⟨((upd_no (by decide)).trans dd13), ((upd_no (by decide)).trans dd14), ((upd_no (by decide)).trans dd15), ((upd_no (by decide)).trans dd16)⟩, ⟨p0, p1, p2, p3, p4⟩⟩
                · rintro d ⟨x54, x55, x56, x57, x58, x59, x60, x61, x62, x63, x64, x65, x66, x67, x68, x69⟩ w' hI hd hdp KQ hK
                  dsimp only at hI
                  obtain ⟨hS, ⟨f0, f1, f2, f3, f4, f5, f6, f7, f8, f9, f10, f11, f12⟩, j, hj, ⟨dd13, dd14, dd15, dd16⟩, ⟨p0, p1, p2, p3, p4⟩⟩ := hI
                  obtain rfl := f8 (hdp 8 (by decide +kernel))
                  obtain ⟨ct0, ct1⟩ := HQD.out.2.2 w' hS
                  have HF : Hid _ := And.intro hS (And.intro (And.intro f0 (And.intro f1 (And.intro f2 (And.intro f3 (And.intro f4 (And.intro f5 (And.intro f6 (And.intro f7 (And.intro f8 (And.intro f9 (And.intro f10 (And.intro f11 f12)))))))))))) (And.intro hj (And.intro (And.intro dd13 (And.intro dd14 (And.intro dd15 dd16))) (And.intro p0 (And.intro p1 (And.intro p2 (And.intro p3 p4)))))))
                  clear hS f0 f1 f2 f3 f4 f5 f6 f7 f8 f9 f10 f11 f12 hj dd13 dd14 dd15 dd16 p0 p1 p2 p3 p4 hdp hd
                  refine Opn.mk ?_
                  dsimp only
                  go_simp
                  obtain ⟨hS, ⟨f0, f1, f2, f3, f4, f5, f6, f7, f8, f9, f10, f11, f12⟩, hj, ⟨dd13, dd14, dd15, dd16⟩, ⟨p0, p1, p2, p3, p4⟩⟩ := HF.out
                  exact hK.out (x54, x55, x56, x57, x58, x59, x60, x61, .pointer (some ⟨gb, 1, none⟩), (Value.slice pa np pc), x64, x65, x66, x67, x68, x69) _ ⟨hS, ⟨(fun h => f0 (upd_ne h (by decide))), (fun h => f1 (upd_ne h (by decide))), (fun h => f2 (upd_ne h (by decide))), (fun h => f3 (upd_ne h (by decide))), (fun h => f4 (upd_ne h (by decide))), (fun h => f5 (upd_ne h (by decide))), (fun h => f6 (upd_ne h (by decide))), (fun h => f7 (upd_ne h (by decide))), (fun _ => rfl), (fun _ => rfl), (fun h => f10 (upd_ne h (by decide))), (fun h => f11 (upd_ne h (by decide))), (fun h => f12 (upd_ne h (by decide)))⟩, j, hj, ⟨((upd_no (by decide)).trans dd13), ((upd_no (by decide)).trans dd14), ((upd_no (by decide)).trans dd15), ((upd_no (by decide)).trans dd16)⟩, ⟨p0, p1, p2, p3, p4⟩⟩
                · rintro d ⟨x54, x55, x56, x57, x58, x59, x60, x61, x62, x63, x64, x65, x66, x67, x68, x69⟩ w' hI hd hdp KQ hK
                  dsimp only at hI
                  obtain ⟨hS, ⟨f0, f1, f2, f3, f4, f5, f6, f7, f8, f9, f10, f11, f12⟩, j, hj, ⟨dd13, dd14, dd15, dd16⟩, ⟨p0, p1, p2, p3, p4⟩⟩ := hI
                  have HF : Hid _ := And.intro hS (And.intro (And.intro f0 (And.intro f1 (And.intro f2 (And.intro f3 (And.intro f4 (And.intro f5 (And.intro f6 (And.intro f7 (And.intro f8 (And.intro f9 (And.intro f10 (And.intro f11 f12)))))))))))) (And.intro hj (And.intro (And.intro dd13 (And.intro dd14 (And.intro dd15 dd16))) (And.intro p0 (And.intro p1 (And.intro p2 (And.intro p3 p4)))))))
                  clear hS f0 f1 f2 f3 f4 f5 f6 f7 f8 f9 f10 f11 f12 hj dd13 dd14 dd15 dd16 p0 p1 p2 p3 p4 hdp hd
                  refine Opn.mk ?_
                  dsimp only
                  go_simp
                  obtain ⟨hS, ⟨f0, f1, f2, f3, f4, f5, f6, f7, f8, f9, f10, f11, f12⟩, hj, ⟨dd13, dd14, dd15, dd16⟩, ⟨p0, p1, p2, p3, p4⟩⟩ := HF.out
                  exact hK.out (x54, x55, x56, x57, x58, x59, x60, x61, x62, x63, .int .i64 (at' : Nat), x65, x66, x67, x68, x69) _ ⟨hS, ⟨(fun h => f0 (upd_ne h (by decide))), (fun h => f1 (upd_ne h (by decide))), (fun h => f2 (upd_ne h (by decide))), (fun h => f3 (upd_ne h (by decide))), (fun h => f4 (upd_ne h (by decide))), (fun h => f5 (upd_ne h (by decide))), (fun h => f6 (upd_ne h (by decide))), (fun h => f7 (upd_ne h (by decide))), (fun h => f8 (upd_ne h (by decide))), (fun h => f9 (upd_ne h (by decide))), (fun _ => rfl), (fun h => f11 (upd_ne h (by decide))), (fun h => f12 (upd_ne h (by decide)))⟩, j, hj, ⟨((upd_no (by decide)).trans dd13), ((upd_no (by decide)).trans dd14), ((upd_no (by decide)).trans dd15), ((upd_no (by decide)).trans dd16)⟩, ⟨p0, p1, p2, p3, p4⟩⟩
                · rintro d ⟨x54, x55, x56, x57, x58, x59, x60, x61, x62, x63, x64, x65, x66, x67, x68, x69⟩ w' hI hd hdp KQ hK
                  dsimp only at hI
                  obtain ⟨hS, ⟨f0, f1, f2, f3, f4, f5, f6, f7, f8, f9, f10, f11, f12⟩, j, hj, ⟨dd13, dd14, dd15, dd16⟩, ⟨p0, p1, p2, p3, p4⟩⟩ := hI
                  have HF : Hid _ := And.intro hS (And.intro (And.intro f0 (And.intro f1 (And.intro f2 (And.intro f3 (And.intro f4 (And.intro f5 (And.intro f6 (And.intro f7 (And.intro f8 (And.intro f9 (And.intro f10 (And.intro f11 f12)))))))))))) (And.intro hj (And.intro (And.intro dd13 (And.intro dd14 (And.intro dd15 dd16))) (And.intro p0 (And.intro p1 (And.intro p2 (And.intro p3 p4)))))))
                  clear hS f0 f1 f2 f3 f4 f5 f6 f7 f8 f9 f10 f11 f12 hj dd13 dd14 dd15 dd16 p0 p1 p2 p3 p4 hdp hd
                  refine Opn.mk ?_
                  dsimp only
                  go_simp
                  obtain ⟨hS, ⟨f0, f1, f2, f3, f4, f5, f6, f7, f8, f9, f10, f11, f12⟩, hj, ⟨dd13, dd14, dd15, dd16⟩, ⟨p0, p1, p2, p3, p4⟩⟩ := HF.out
                  exact hK.out (x54, x55, x56, x57, x58, x59, x60, x61, x62, x63, x64, .pointer (some ⟨b3, 3, none⟩), x66, x67, x68, x69) _ ⟨hS, ⟨(fun h => f0 (upd_ne h (by decide))), (fun h => f1 (upd_ne h (by decide))), (fun h => f2 (upd_ne h (by decide))), (fun h => f3 (upd_ne h (by decide))), (fun h => f4 (upd_ne h (by decide))), (fun h => f5 (upd_ne h (by decide))), (fun h => f6 (upd_ne h (by decide))), (fun h => f7 (upd_ne h (by decide))), (fun h => f8 (upd_ne h (by decide))), (fun h => f9 (upd_ne h (by decide))), (fun h => f10 (upd_ne h (by decide))), (fun _ => rfl), (fun h => f12 (upd_ne h (by decide)))⟩, j, hj, ⟨((upd_no (by decide)).trans dd13), ((upd_no (by decide)).trans dd14), ((upd_no (by decide)).trans dd15), ((upd_no (by decide)).trans dd16)⟩, ⟨p0, p1, p2, p3, p4⟩⟩
                · rintro d ⟨x54, x55, x56, x57, x58, x59, x60, x61, x62, x63, x64, x65, x66, x67, x68, x69⟩ w' hI hd hdp KQ hK
                  dsimp only at hI
                  obtain ⟨hS, ⟨f0, f1, f2, f3, f4, f5, f6, f7, f8, f9, f10, f11, f12⟩, j, hj, ⟨dd13, dd14, dd15, dd16⟩, ⟨p0, p1, p2, p3, p4⟩⟩ := hI
                  obtain rfl := f11 (hdp 11 (by decide +kernel))
                  obtain ⟨cs0, cs1, cs2, cs3, cs4⟩ := HQD.out.2.1 w' hS
                  have HF : Hid _ := And.intro hS (And.intro (And.intro f0 (And.intro f1 (And.intro f2 (And.intro f3 (And.intro f4 (And.intro f5 (And.intro f6 (And.intro f7 (And.intro f8 (And.intro f9 (And.intro f10 (And.intro f11 f12)))))))))))) (And.intro hj (And.intro (And.intro dd13 (And.intro dd14 (And.intro dd15 dd16))) (And.intro p0 (And.intro p1 (And.intro p2 (And.intro p3 p4)))))))
                  clear hS f0 f1 f2 f3 f4 f5 f6 f7 f8 f9 f10 f11 f12 hj dd13 dd14 dd15 dd16 p0 p1 p2 p3 p4 hdp hd
                  refine Opn.mk ?_
                  dsimp only
                  go_simp
                  obtain ⟨hS, ⟨f0, f1, f2, f3, f4, f5, f6, f7, f8, f9, f10, f11, f12⟩, hj, ⟨dd13, dd14, dd15, dd16⟩, ⟨p0, p1, p2, p3, p4⟩⟩ := HF.out
                  exact hK.out (x54, x55, x56, x57, x58, x59, x60, x61, x62, x63, x64, .pointer (some ⟨b3, 3, none⟩), .int .i64 gp, x67, x68, x69) _ ⟨hS, ⟨(fun h => f0 (upd_ne h (by decide))), (fun h => f1 (upd_ne h (by decide))), (fun h => f2 (upd_ne h (by decide))), (fun h => f3 (upd_ne h (by decide))), (fun h => f4 (upd_ne h (by decide))), (fun h => f5 (upd_ne h (by decide))), (fun h => f6 (upd_ne h (by decide))), (fun h => f7 (upd_ne h (by decide))), (fun h => f8 (upd_ne h (by decide))), (fun h => f9 (upd_ne h (by decide))), (fun h => f10 (upd_ne h (by decide))), (fun _ => rfl), (fun _ => rfl)⟩, j, hj, ⟨((upd_no (by decide)).trans dd13), ((upd_no (by decide)).trans dd14), ((upd_no (by decide)).trans dd15), ((upd_no (by decide)).trans dd16)⟩, ⟨p0, p1, p2, p3, p4⟩⟩
                · rintro d ⟨x54, x55, x56, x57, x58, x59, x60, x61, x62, x63, x64, x65, x66, x67, x68, x69⟩ w' hI hd hdp KQ hK
                  dsimp only at hI
                  obtain ⟨hS, ⟨f0, f1, f2, f3, f4, f5, f6, f7, f8, f9, f10, f11, f12⟩, j, hj, ⟨dd13, dd14, dd15, dd16⟩, ⟨p0, p1, p2, p3, p4⟩⟩ := hI
                  obtain rfl := f12 (hdp 12 (by decide +kernel))
                  obtain rfl := ph_zero dd13 hd
                  have s := p0 rfl
                  clear p0 p1 p2 p3 p4 hj
                  have HG : Hid _ := And.intro hS s
                  clear hS s
                  have HF : Hid _ := And.intro (And.intro f0 (And.intro f1 (And.intro f2 (And.intro f3 (And.intro f4 (And.intro f5 (And.intro f6 (And.intro f7 (And.intro f8 (And.intro f9 (And.intro f10 (And.intro f11 f12)))))))))))) (And.intro dd13 (And.intro dd14 (And.intro dd15 dd16)))
                  clear f0 f1 f2 f3 f4 f5 f6 f7 f8 f9 f10 f11 f12 dd13 dd14 dd15 dd16 hdp hd
                  refine Opn.mk ?_
                  dsimp only
                  go_simp
                  obtain ⟨hS, s⟩ := HG.out
                  obtain ⟨⟨f0, f1, f2, f3, f4, f5, f6, f7, f8, f9, f10, f11, f12⟩, ⟨dd13, dd14, dd15, dd16⟩⟩ := HF.out
                  refine hK.out (x54, x55, x56, x57, x58, x59, x60, x61, x62, x63, x64, x65, .int .i64 gp, .slice (some ⟨w'.heap.size, 0, none⟩) 1 1, x68, x69) _ ⟨?sg, ⟨(fun h => f0 (upd_ne h (by decide))), (fun h => f1 (upd_ne h (by decide))), (fun h => f2 (upd_ne h (by decide))), (fun h => f3 (upd_ne h (by decide))), (fun h => f4 (upd_ne h (by decide))), (fun h => f5 (upd_ne h (by decide))), (fun h => f6 (upd_ne h (by decide))), (fun h => f7 (upd_ne h (by decide))), (fun h => f8 (upd_ne h (by decide))), (fun h => f9 (upd_ne h (by decide))), (fun h => f10 (upd_ne h (by decide))), (fun h => f11 (upd_ne h (by decide))), (fun _ => rfl)⟩, 1, by decide, ⟨(by simp [upd]), ((upd_no (by decide)).trans (dd14.trans (by decide))), ((upd_no (by decide)).trans (dd15.trans (by decide))), ((upd_no (by decide)).trans (dd16.trans (by decide)))⟩, ⟨(fun h => absurd h (by decide)), (fun _ => ?new), (fun h => absurd h (by decide)), (fun h => absurd h (by decide)), (fun h => absurd h (by decide))⟩⟩
                  case sg => exact hS.trans (Fr.of_below ((Below.refl _ _).alloc (Nat.le_refl _) _)) fun _ _ h => h
                  case new =>
                    exact ⟨grown_trans s.1 (grown_alloc _ _ _), own_below s.2 ((Below.refl _ _).alloc (Nat.le_refl _) _), _, rfl, BxA.new _ _ _, s.1.size⟩
                · rintro d ⟨x54, x55, x56, x57, x58, x59, x60, x61, x62, x63, x64, x65, x66, x67, x68, x69⟩ w' hI hd hdp KQ hK
                  dsimp only at hI
                  obtain ⟨hS, ⟨f0, f1, f2, f3, f4, f5, f6, f7, f8, f9, f10, f11, f12⟩, j, hj, ⟨dd13, dd14, dd15, dd16⟩, ⟨p0, p1, p2, p3, p4⟩⟩ := hI
                  obtain rfl := f9 (hdp 9 (by decide +kernel))
                  obtain rfl := f10 (hdp 10 (by decide +kernel))
                  obtain rfl := ph_eq (k := 0) dd14 hd dd13 (hdp 13 (by decide +kernel))
                  have s := p1 rfl
                  clear p0 p1 p2 p3 p4 hj
                  obtain ⟨sg0, so, g, ea, hx, hg⟩ := s
                  subst ea
                  have hne0 : (Value.slice pa np pc).ownBlock ≠ some g := fun q => by have h1 := (own_lt HOV.out _ q).2; omega
                  have kk := ins_int w' (Value.slice pa np pc) ps at' gp g so HAT.out.1 hx hne0 HPL.out
                  clear so hne0
                  have HG : Hid _ := And.intro hS (And.intro sg0 hg)
                  clear hS sg0 hx hg
                  have HF : Hid _ := And.intro (And.intro f0 (And.intro f1 (And.intro f2 (And.intro f3 (And.intro f4 (And.intro f5 (And.intro f6 (And.intro f7 (And.intro f8 (And.intro f9 (And.intro f10 (And.intro f11 f12)))))))))))) (And.intro dd13 (And.intro dd14 (And.intro dd15 dd16)))
                  clear f0 f1 f2 f3 f4 f5 f6 f7 f8 f9 f10 f11 f12 dd13 dd14 dd15 dd16 hdp hd
                  refine Opn.mk ?_
                  dsimp only
                  go_simp
                  go_wp2_with (first | (go_at_call 32; with_reducible refine kk.mono ?_; rintro e5 w5 ⟨v', rfl, rn⟩))
                  obtain ⟨hS, sg0, hg⟩ := HG.out
                  obtain ⟨⟨f0, f1, f2, f3, f4, f5, f6, f7, f8, f9, f10, f11, f12⟩, ⟨dd13, dd14, dd15, dd16⟩⟩ := HF.out
                  refine hK.out (x54, x55, x56, x57, x58, x59, x60, x61, x62, (Value.slice pa np pc), .int .i64 (at' : Nat), x65, x66, .slice (some ⟨g, 0, none⟩) 1 1, v', x69) _ ⟨?sg, ⟨(fun h => f0 (upd_ne h (by decide))), (fun h => f1 (upd_ne h (by decide))), (fun h => f2 (upd_ne h (by decide))), (fun h => f3 (upd_ne h (by decide))), (fun h => f4 (upd_ne h (by decide))), (fun h => f5 (upd_ne h (by decide))), (fun h => f6 (upd_ne h (by decide))), (fun h => f7 (upd_ne h (by decide))), (fun h => f8 (upd_ne h (by decide))), (fun _ => rfl), (fun _ => rfl), (fun h => f11 (upd_ne h (by decide))), (fun h => f12 (upd_ne h (by decide)))⟩, 2, by decide, ⟨((upd_no (by decide)).trans (dd13.trans (by decide))), (by simp [upd]), ((upd_no (by decide)).trans (dd15.trans (by decide))), ((upd_no (by decide)).trans (dd16.trans (by decide)))⟩, ⟨(fun h => absurd h (by decide)), (fun h => absurd h (by decide)), (fun _ => ?new), (fun h => absurd h (by decide)), (fun h => absurd h (by decide))⟩⟩
                  case sg => exact hS.trans (Fr.of_grown (F := fun i => (Value.slice pa np pc).ownBlock = some i ∨ i = m) rn.grown fun j hj => .inl (.inl hj)) fun _ _ h => h
                  case new =>
                    obtain ⟨va, vc, ev'⟩ := own_sl rn.own
                    subst ev'
                    refine ⟨va, _, vc, rfl, grown_trans sg0 rn.grown, fun r hr => (rn.blk r hr).imp id fun h => Nat.le_trans sg0.size h, ?_⟩
                    unfold insP
                    rw [← HAT.out.2]
                    exact rn.own
                · rintro d ⟨x54, x55, x56, x57, x58, x59, x60, x61, x62, x63, x64, x65, x66, x67, x68, x69⟩ w' hI hd hdp KQ hK
                  dsimp only at hI
                  obtain ⟨hS, ⟨f0, f1, f2, f3, f4, f5, f6, f7, f8, f9, f10, f11, f12⟩, j, hj, ⟨dd13, dd14, dd15, dd16⟩, ⟨p0, p1, p2, p3, p4⟩⟩ := hI
                  obtain rfl := f7 (hdp 7 (by decide +kernel))
                  obtain rfl := ph_eq (k := 1) dd15 hd dd14 (hdp 14 (by decide +kernel))
                  have s := p2 rfl
                  clear p0 p1 p2 p3 p4 hj
                  obtain ⟨va, vn, vc, ea, s⟩ := s
                  subst ea
                  have HG : Hid _ := And.intro hS s
                  clear hS s
                  have HF : Hid _ := And.intro (And.intro f0 (And.intro f1 (And.intro f2 (And.intro f3 (And.intro f4 (And.intro f5 (And.intro f6 (And.intro f7 (And.intro f8 (And.intro f9 (And.intro f10 (And.intro f11 f12)))))))))))) (And.intro dd13 (And.intro dd14 (And.intro dd15 dd16)))
                  clear f0 f1 f2 f3 f4 f5 f6 f7 f8 f9 f10 f11 f12 dd13 dd14 dd15 dd16 hdp hd
                  refine Opn.mk ?_
                  dsimp only
                  go_simp
                  obtain ⟨hS, s⟩ := HG.out
                  obtain ⟨⟨f0, f1, f2, f3, f4, f5, f6, f7, f8, f9, f10, f11, f12⟩, ⟨dd13, dd14, dd15, dd16⟩⟩ := HF.out
                  refine hK.out (x54, x55, x56, x57, x58, x59, x60, .int .i64 gc, x62, x63, x64, x65, x66, x67, .slice va vn vc, .agg #[.int .i64 gc, .slice va vn vc]) _ ⟨?sg, ⟨(fun h => f0 (upd_ne h (by decide))), (fun h => f1 (upd_ne h (by decide))), (fun h => f2 (upd_ne h (by decide))), (fun h => f3 (upd_ne h (by decide))), (fun h => f4 (upd_ne h (by decide))), (fun h => f5 (upd_ne h (by decide))), (fun h => f6 (upd_ne h (by decide))), (fun _ => rfl), (fun h => f8 (upd_ne h (by decide))), (fun h => f9 (upd_ne h (by decide))), (fun h => f10 (upd_ne h (by decide))), (fun h => f11 (upd_ne h (by decide))), (fun h => f12 (upd_ne h (by decide)))⟩, 3, by decide, ⟨((upd_no (by decide)).trans (dd13.trans (by decide))), ((upd_no (by decide)).trans (dd14.trans (by decide))), (by simp [upd]), ((upd_no (by decide)).trans (dd16.trans (by decide)))⟩, ⟨(fun h => absurd h (by decide)), (fun h => absurd h (by decide)), (fun h => absurd h (by decide)), (fun _ => ?new), (fun h => absurd h (by decide))⟩⟩
                  case sg => exact hS
                  case new =>
                    exact ⟨va, vn, vc, rfl, s⟩
                · rintro d ⟨x54, x55, x56, x57, x58, x59, x60, x61, x62, x63, x64, x65, x66, x67, x68, x69⟩ w' hI hd hdp KQ hK
                  dsimp only at hI
                  obtain ⟨hS, ⟨f0, f1, f2, f3, f4, f5, f6, f7, f8, f9, f10, f11, f12⟩, j, hj, ⟨dd13, dd14, dd15, dd16⟩, ⟨p0, p1, p2, p3, p4⟩⟩ := hI
                  obtain rfl := f3 (hdp 3 (by decide +kernel))
                  obtain rfl := f5 (hdp 5 (by decide +kernel))
                  obtain rfl := ph_eq (k := 2) dd16 hd dd15 (hdp 15 (by decide +kernel))
                  have s := p3 rfl
                  clear p0 p1 p2 p3 p4 hj
                  obtain ⟨va, vn, vc, ea, sg0, sg1, sg2⟩ := s
                  subst ea
                  obtain ⟨w6, hrun, r1, r2⟩ := World.ownsMap.update (HMV.out.kept sg0 HNM.out) law Try.underlying61 (by have := HFEW.out; unfold maxLen; exact Nat.lt_of_le_of_lt this (by decide)) (key_mk (k1, k2, k3) HB3.out) (sel_mk gc (flat_own sg2))
                  unfold kv at hrun
                  simp only at hrun
                  have HG : Hid _ := And.intro hS (And.intro sg0 (And.intro sg1 (And.intro sg2 (And.intro r1 r2))))
                  clear hS sg0 sg1 sg2 r1 r2
                  have HF : Hid _ := And.intro (And.intro f0 (And.intro f1 (And.intro f2 (And.intro f3 (And.intro f4 (And.intro f5 (And.intro f6 (And.intro f7 (And.intro f8 (And.intro f9 (And.intro f10 (And.intro f11 f12)))))))))))) (And.intro dd13 (And.intro dd14 (And.intro dd15 dd16)))
                  clear f0 f1 f2 f3 f4 f5 f6 f7 f8 f9 f10 f11 f12 dd13 dd14 dd15 dd16 hdp hd
                  refine Opn.mk ?_
                  dsimp only
                  go_simp
                  obtain ⟨hS, sg0, sg1, sg2, r1, r2⟩ := HG.out
                  obtain ⟨⟨f0, f1, f2, f3, f4, f5, f6, f7, f8, f9, f10, f11, f12⟩, ⟨dd13, dd14, dd15, dd16⟩⟩ := HF.out
                  refine hK.out (x54, x55, x56, .map (some m), x58, .agg #[.int .i64 k1, .int .i64 k2, .int .i64 k3], x60, x61, x62, x63, x64, x65, x66, x67, x68, .agg #[.int .i64 gc, .slice va vn vc]) _ ⟨?sg, ⟨(fun h => f0 (upd_ne h (by decide))), (fun h => f1 (upd_ne h (by decide))), (fun h => f2 (upd_ne h (by decide))), (fun _ => rfl), (fun h => f4 (upd_ne h (by decide))), (fun _ => rfl), (fun h => f6 (upd_ne h (by decide))), (fun h => f7 (upd_ne h (by decide))), (fun h => f8 (upd_ne h (by decide))), (fun h => f9 (upd_ne h (by decide))), (fun h => f10 (upd_ne h (by decide))), (fun h => f11 (upd_ne h (by decide))), (fun h => f12 (upd_ne h (by decide)))⟩, 4, by decide, ⟨((upd_no (by decide)).trans (dd13.trans (by decide))), ((upd_no (by decide)).trans (dd14.trans (by decide))), ((upd_no (by decide)).trans (dd15.trans (by decide))), (by simp [upd])⟩, ⟨(fun h => absurd h (by decide)), (fun h => absurd h (by decide)), (fun h => absurd h (by decide)), (fun h => absurd h (by decide)), (fun _ => ?new)⟩⟩
                  case sg => exact hS.trans (Fr.of_grown (F := fun i => (Value.slice pa np pc).ownBlock = some i ∨ i = m) r2 fun j hj => .inl (.inr (Option.some.inj hj).symm)) fun _ _ h => h
                  case new =>
                    exact ⟨_, tl_put HZV.out HFN.out HGC.out HB3.out sg0 sg2 sg1 HMV.out HMD.out r1 r2⟩
              case he1004 =>
                rintro d ⟨x54, x55, x56, x57, x58, x59, x60, x61, x62, x63, x64, x65, x66, x67, x68, x69⟩ w' hall hI
                dsimp only at hI
                obtain ⟨hS, ⟨f0, f1, f2, f3, f4, f5, f6, f7, f8, f9, f10, f11, f12⟩, j, hj, ⟨dd13, dd14, dd15, dd16⟩, ⟨p0, p1, p2, p3, p4⟩⟩ := hI
                obtain rfl := ph_end (k := 3) hj dd16 (hall 16 (by decide))
                have s := p4 rfl

                clear hall hj f0 f1 f2 f3 f4 f5 f6 f7 f8 f9 f10 f11 f12 dd13 dd14 dd15 dd16 p0 p1 p2 p3 p4
                obtain ⟨v', q⟩ := s
                have HT : Hid _ := q
                clear q hS
                try dsimp only
                go_wp2_with fail
                go_ret
                exact HEND.out v' _ HT.out
end Go.Proofs.Ytgbmigfamefenaa
