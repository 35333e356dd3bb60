/- Contract: Remove. -/
import Derived.Test.YtgbmigfamefenaaAdM
namespace Go.Proofs.Ytgbmigfamefenaa
open Go.Shelf Go.RowKit Go.Maps Go.Sort
set_option linter.unusedVariables false

theorem remF_arg {s : List Es} {g : Sg} (hm : may g = false) : remF s g = (1, s) := by
  unfold remF
  rw [if_neg (by rw [hm]; simp)]
theorem remF_out {s : List Es} {k : K3} {p gc : Int} (hm : may (k, p, gc) = true) (hf : s.find? (fun e => e.1 == k) = none) : remF s (k, p, gc) = (120, s) := by
  unfold remF
  rw [if_pos hm]
  simp only [hf]
theorem remF_no {s : List Es} {k : K3} {p gc c : Int} {ps : List Int} (hm : may (k, p, gc) = true) (hf : s.find? (fun e => e.1 == k) = some (k, c, ps)) (hn : ps.contains p = false ∨ c ≠ gc) : remF s (k, p, gc) = (120, s) := by
  unfold remF
  rw [if_pos hm]
  simp only [hf]
  rw [if_neg]
  rcases hn with q | q
  · rw [q]; simp
  · rw [decide_eq_false q]; simp
theorem remF_yes {s : List Es} {k : K3} {p gc c : Int} {ps : List Int} (hm : may (k, p, gc) = true) (hf : s.find? (fun e => e.1 == k) = some (k, c, ps)) (ht : ps.contains p = true) (hc : c = gc) : remF s (k, p, gc) = (0, if (delP ps p).length = 0 then s.filter (fun x => !decide (x.1 = k)) else updE s k (delP ps p)) := by
  unfold remF
  rw [if_pos hm]
  simp only [hf]
  rw [if_pos (by rw [ht, decide_eq_true hc]; rfl)]
theorem grown_setG {w w' : World} {R : Option Nat} {g i : Nat} {u : Value} (h : w.grownBy w' R) (hg : w.heap.size ≤ g) : w.grownBy (w'.setCell ⟨g, i, none⟩ u) R := by
  have k := grown_setCell (w := w') (R := g) (j := i) (u := u)
  exact ⟨k.os.trans h.os, k.tape.trans h.tape, k.output.trans h.output, Nat.le_trans h.size k.size, fun j hj hne => (Below.heap_setCell _ _ _ _ (by show j ≠ g; omega)).trans (h.block j hj hne)⟩
theorem bxa_map {w : World} {g m n : Nat} {ty : TypeId} {cs : Array Value} {D : DataW Unit} (hb : BxA w g ty cs) (hm : w.ownsMap Try.prog 55 sel m n D) : ¬ g = m := by
  intro q
  obtain ⟨es, clock, hc⟩ := map_block hm
  unfold BxA at hb
  rw [← q, hb] at hc
  cases hc
set_option maxRecDepth 100000 in
set_option maxHeartbeats 12800000 in
theorem rem_any (w : World) (t : Nat) (F : Nat → Prop) (s : List Es) (k1 k2 k3 gp gc : Int) (h : Tl w t F s) (hs : Wf s) (hb3 : B3 (k1, k2, k3)) (hfew : s.length ≤ 100000) (hps : ∀ e ∈ s, e.2.2.length ≤ 100000) :
    Calls Try.prog 19 #[.pointer (some ⟨t, 0, none⟩), .agg #[.int .i64 k1, .int .i64 k2, .int .i64 k3, .int .i64 gp, .int .i64 gc]] w (AdP w t F (remF s ((k1, k2, k3), gp, gc))) := by
  have mixed : Try.prog.follows .mixedOrders = true := by kernel_rfl
  obtain ⟨mo, Z, hz⟩ := h
  obtain ⟨W0, hW0⟩ : ∃ W0, W0 = w.alloc (.cells #[.int .i64 k1, .int .i64 k2, .int .i64 k3, .int .i64 gp, .int .i64 gc] 32) := ⟨_, rfl⟩
  have HG0 : Hid (Grows w W0) := by apply hide; rw [hW0]; exact Grows.alloc _ _
  have HBX0 : Hid (BxA W0 w.heap.size 32 #[.int .i64 k1, .int .i64 k2, .int .i64 k3, .int .i64 gp, .int .i64 gc]) := by apply hide; rw [hW0]; exact BxA.new _ _ _
  have kM := mayBe_any W0 k1 k2 k3 gp gc
  have HW0 : Hid (W0 = w.alloc (.cells #[.int .i64 k1, .int .i64 k2, .int .i64 k3, .int .i64 gp, .int .i64 gc] 32)) := hW0
  have HZ := hide hz
  have HS := hide hs
  have HB3 : Hid (B3 (k1, k2, k3)) := hb3
  have HFW := hide hfew
  have HPS := hide hps
  have hzl : Z.length ≤ 100000 := by have := congrArg List.length hz.fs; rw [List.length_map] at this; omega
  have HFEW := hide hzl
  obtain ⟨b3, hb3x⟩ : ∃ b, b = w.heap.size := ⟨_, rfl⟩
  rw [← hb3x] at HBX0
  have HB3E := hide hb3x
  clear hW0 hz hs hb3 hfew hps hzl
  obtain ⟨q, hq⟩ : ∃ q, q = may ((k1, k2, k3), gp, gc) := ⟨_, rfl⟩
  rw [← hq] at kM
  have HQ := hide hq
  clear hq
  cases q
  case false =>
    have HE : Hid (∀ w', Grows W0 w' → AdP w t F (remF s ((k1, k2, k3), gp, gc)) (.returned (.int .i64 1)) w') := by
      intro w' hg
      rw [remF_arg HQ.out.symm]
      exact ⟨rfl, F, Tw.same ⟨mo, Z, HZ.out⟩ (HG0.out.trans hg).below⟩
    clear hb3x
    go_enter Try.func19, Try.ntmps19
    go_wp2_with fail
    rw [← HW0.out]
    refine kM.mono ?_
    rintro ev w1 ⟨rfl, g1⟩
    have HE1 := hide (HE.out w1 g1)
    clear g1 kM
    go_wp2_with fail
    go_ret
    exact HE1.out
  case true =>
    clear hb3x
    go_enter Try.func19, Try.ntmps19
    go_wp2_with fail
    rw [← HW0.out]
    refine kM.mono ?_
    rintro ev W ⟨rfl, g1⟩
    go_upto_region 3 with fail
    clear kM
    have HZW : Hid (TlZ W t F s mo Z) := HZ.out.below (HG0.out.trans g1).below
    have HT0 : Hid (Tw w W t F s F) := Tw.same ⟨mo, Z, HZ.out⟩ (HG0.out.trans g1).below
    have HBW : Hid (BxA W b3 32 #[.int .i64 k1, .int .i64 k2, .int .i64 k3, .int .i64 gp, .int .i64 gc]) := HBX0.out.up g1.below
    clear g1
    obtain ⟨c, pv, ps, ob, hfnd⟩ := Fnd.ex Z (k1, k2, k3)
    obtain ⟨pa, np, pc, hpv, hnp⟩ : ∃ pa np pc, pv = .slice pa np pc ∧ np = ps.length := by
      obtain ⟨a, c', e⟩ := own_sl (hfnd.own HZW.out)
      exact ⟨a, _, c', e, rfl⟩
    subst hpv
    have HNP := hide hnp
    have HFN := hide hfnd
    have HRD : Hid ((∀ w', Below W.heap.size W w' → w'.cell? ⟨t, 0, none⟩ = some (.map mo)) ∧ (∀ w', Below W.heap.size W w' → w'.cell? ⟨b3, 0, none⟩ = some (.int .i64 k1) ∧ w'.cell? ⟨b3, 1, none⟩ = some (.int .i64 k2) ∧ w'.cell? ⟨b3, 2, none⟩ = some (.int .i64 k3) ∧ w'.cell? ⟨b3, 3, none⟩ = some (.int .i64 gp) ∧ w'.cell? ⟨b3, 4, none⟩ = some (.int .i64 gc)) ∧ (∀ w', Below W.heap.size W w' → (Instr.lookup 61 (.map mo) (.agg #[.int .i64 k1, .int .i64 k2, .int .i64 k3]) false).run Try.prog w' = .ok (.agg #[.int .i64 c, (Value.slice pa np pc)]) w')) := by
      refine ⟨fun w' hb => (HZW.out.below hb).b.cell 0 _ rfl, fun w' hb => ?_, fun w' hb => HFN.out.look (HZW.out.below hb) HB3.out false⟩
      have hx := HBW.out.up hb
      exact ⟨hx.cell 0 _ rfl, hx.cell 1 _ rfl, hx.cell 2 _ rfl, hx.cell 3 _ rfl, hx.cell 4 _ rfl⟩
    have HOW : Hid (OwI W (Value.slice pa np pc) ps) := hfnd.own HZW.out
    have HUP : Hid (ps.Pairwise (· < ·)) := hfnd.rise HZW.out HS.out
    have HPL : Hid (ps.length ≤ 100000) := hfnd.few HZW.out HPS.out
    have HSY := hide (hfnd.say HZW.out)
    have hSig0 : Below W.heap.size W W.drew := (Below.refl _ _).drew
    rw [← HB3E.out]
    have hS00 : True := trivial
    clear hfnd hnp
    try dsimp only
    refine wp_region_invF (β := Value × Value × Value × Value × Value × Value × Value × Value) (fun a0 xq => ((((((((a0.put (some 15) (xq.1)).put (some 16) (xq.2.1)).put (some 17) (xq.2.2.1)).put (some 18) (xq.2.2.2.1)).put (some 19) (xq.2.2.2.2.1)).put (some 20) (xq.2.2.2.2.2.1)).put (some 21) (xq.2.2.2.2.2.2.1)).put (some 5) (xq.2.2.2.2.2.2.2))) ?fr2000 (fun xq d w' => (Below W.heap.size W w') ∧ ((d 0 = true → (xq.1) = .pointer (some ⟨t, 0, none⟩)) ∧ (d 1 = true → (xq.2.1) = .pointer (some ⟨t, 0, none⟩)) ∧ (d 2 = true → (xq.2.2.1) = .pointer (some ⟨t, 0, none⟩)) ∧ (d 3 = true → (xq.2.2.2.1) = .map mo) ∧ (d 4 = true → (xq.2.2.2.2.1) = .agg #[.int .i64 k1, .int .i64 k2, .int .i64 k3, .int .i64 gp, .int .i64 gc]) ∧ (d 5 = true → (xq.2.2.2.2.2.1) = .agg #[.int .i64 k1, .int .i64 k2, .int .i64 k3]) ∧ (d 6 = true → (xq.2.2.2.2.2.2.1) = .agg #[.int .i64 c, (Value.slice pa np pc)])) ∧ ∃ j : Nat, j ≤ 2 ∧ (d 7 = decide (0 < j) ∧ d 8 = decide (1 < j)) ∧ ((j = 0 → True) ∧ (j = 1 → ∃ g, (xq.2.2.2.2.2.2.2) = .pointer (some ⟨g, 0, none⟩) ∧ BxA w' g 67 #[.int .i64 0, .slice none 0 0] ∧ W.heap.size ≤ g) ∧ (j = 2 → ∃ g, (xq.2.2.2.2.2.2.2) = .pointer (some ⟨g, 0, none⟩) ∧ BxA w' g 67 #[.int .i64 c, (Value.slice pa np pc)] ∧ W.heap.size ≤ g))) ?lay2000 mixed (by kernel_rfl) ?h02000 ?hs2000 ?he2000
    case lay2000 =>
      intro xq
      simp only [Act.put, List.setIfInBounds_toArray, List.set_cons_zero, List.set_cons_succ]
      rfl
    case h02000 =>
      refine ⟨(undef, undef, undef, undef, undef, undef, undef, undef), rfl, ?sig2000, ⟨(fun h => by cases h), (fun h => by cases h), (fun h => by cases h), (fun h => by cases h), (fun h => by cases h), (fun h => by cases h), (fun h => by cases h)⟩, 0, Nat.zero_le _, ⟨rfl, rfl⟩, ?S02000, (fun h => by cases h), (fun h => by cases h)⟩
      case sig2000 => exact hSig0
      case S02000 => exact fun _ => hS00
    case hs2000 =>
      refine ⟨?_, ?_, ?_, ?_, ?_, ?_, ?_, ?_, ?_, trivial⟩
      · rintro d ⟨x15, x16, x17, x18, x19, x20, x21, x5⟩ w' hI hd hdp KQ hK
        dsimp only at hI
        obtain ⟨hS, ⟨f0, f1, f2, f3, f4, f5, f6⟩, j, hj, ⟨dd7, dd8⟩, ⟨p0, p1, p2⟩⟩ := hI
        have HF : Hid _ := And.intro hS (And.intro (And.intro f0 (And.intro f1 (And.intro f2 (And.intro f3 (And.intro f4 (And.intro f5 f6)))))) (And.intro hj (And.intro (And.intro dd7 dd8) (And.intro p0 (And.intro p1 p2)))))
        clear hS f0 f1 f2 f3 f4 f5 f6 hj dd7 dd8 p0 p1 p2 hdp hd
        refine Opn.mk ?_
        dsimp only
        go_simp
        obtain ⟨hS, ⟨f0, f1, f2, f3, f4, f5, f6⟩, hj, ⟨dd7, dd8⟩, ⟨p0, p1, p2⟩⟩ := HF.out
        exact hK.out (.pointer (some ⟨t, 0, none⟩), x16, x17, x18, x19, x20, x21, x5) _ ⟨hS, ⟨(fun _ => rfl), (fun h => f1 (upd_ne h (by decide))), (fun h => f2 (upd_ne h (by decide))), (fun h => f3 (upd_ne h (by decide))), (fun h => f4 (upd_ne h (by decide))), (fun h => f5 (upd_ne h (by decide))), (fun h => f6 (upd_ne h (by decide)))⟩, j, hj, ⟨((upd_no (by decide)).trans dd7), ((upd_no (by decide)).trans dd8)⟩, ⟨p0, p1, p2⟩⟩
      · rintro d ⟨x15, x16, x17, x18, x19, x20, x21, x5⟩ w' hI hd hdp KQ hK
        dsimp only at hI
        obtain ⟨hS, ⟨f0, f1, f2, f3, f4, f5, f6⟩, j, hj, ⟨dd7, dd8⟩, ⟨p0, p1, p2⟩⟩ := hI
        obtain rfl := f0 (hdp 0 (by decide +kernel))
        have HF : Hid _ := And.intro hS (And.intro (And.intro f0 (And.intro f1 (And.intro f2 (And.intro f3 (And.intro f4 (And.intro f5 f6)))))) (And.intro hj (And.intro (And.intro dd7 dd8) (And.intro p0 (And.intro p1 p2)))))
        clear hS f0 f1 f2 f3 f4 f5 f6 hj dd7 dd8 p0 p1 p2 hdp hd
        refine Opn.mk ?_
        dsimp only
        go_simp
        obtain ⟨hS, ⟨f0, f1, f2, f3, f4, f5, f6⟩, hj, ⟨dd7, dd8⟩, ⟨p0, p1, p2⟩⟩ := HF.out
        exact hK.out (.pointer (some ⟨t, 0, none⟩), .pointer (some ⟨t, 0, none⟩), x17, x18, x19, x20, x21, x5) _ ⟨hS, ⟨(fun _ => rfl), (fun _ => rfl), (fun h => f2 (upd_ne h (by decide))), (fun h => f3 (upd_ne h (by decide))), (fun h => f4 (upd_ne h (by decide))), (fun h => f5 (upd_ne h (by decide))), (fun h => f6 (upd_ne h (by decide)))⟩, j, hj, ⟨((upd_no (by decide)).trans dd7), ((upd_no (by decide)).trans dd8)⟩, ⟨p0, p1, p2⟩⟩
      · rintro d ⟨x15, x16, x17, x18, x19, x20, x21, x5⟩ w' hI hd hdp KQ hK
        dsimp only at hI
        obtain ⟨hS, ⟨f0, f1, f2, f3, f4, f5, f6⟩, j, hj, ⟨dd7, dd8⟩, ⟨p0, p1, p2⟩⟩ := hI
        obtain rfl := f1 (hdp 1 (by decide +kernel))
        have HF : Hid _ := And.intro hS (And.intro (And.intro f0 (And.intro f1 (And.intro f2 (And.intro f3 (And.intro f4 (And.intro f5 f6)))))) (And.intro hj (And.intro (And.intro dd7 dd8) (And.intro p0 (And.intro p1 p2)))))
        clear hS f0 f1 f2 f3 f4 f5 f6 hj dd7 dd8 p0 p1 p2 hdp hd
        refine Opn.mk ?_
        dsimp only
        go_simp
        obtain ⟨hS, ⟨f0, f1, f2, f3, f4, f5, f6⟩, hj, ⟨dd7, dd8⟩, ⟨p0, p1, p2⟩⟩ := HF.out
        exact hK.out (x15, .pointer (some ⟨t, 0, none⟩), .pointer (some ⟨t, 0, none⟩), x18, x19, x20, x21, x5) _ ⟨hS, ⟨(fun h => f0 (upd_ne h (by decide))), (fun _ => rfl), (fun _ => rfl), (fun h => f3 (upd_ne h (by decide))), (fun h => f4 (upd_ne h (by decide))), (fun h => f5 (upd_ne h (by decide))), (fun h => f6 (upd_ne h (by decide)))⟩, j, hj, ⟨((upd_no (by decide)).trans dd7), ((upd_no (by decide)).trans dd8)⟩, ⟨p0, p1, p2⟩⟩
      · rintro d ⟨x15, x16, x17, x18, x19, x20, x21, x5⟩ w' hI hd hdp KQ hK
        dsimp only at hI
        obtain ⟨hS, ⟨f0, f1, f2, f3, f4, f5, f6⟩, j, hj, ⟨dd7, dd8⟩, ⟨p0, p1, p2⟩⟩ := hI
        obtain rfl := f2 (hdp 2 (by decide +kernel))
        have cc := HRD.out.1 w' hS
        have HF : Hid _ := And.intro hS (And.intro (And.intro f0 (And.intro f1 (And.intro f2 (And.intro f3 (And.intro f4 (And.intro f5 f6)))))) (And.intro hj (And.intro (And.intro dd7 dd8) (And.intro p0 (And.intro p1 p2)))))
        clear hS f0 f1 f2 f3 f4 f5 f6 hj dd7 dd8 p0 p1 p2 hdp hd
        refine Opn.mk ?_
        dsimp only
        go_simp
        obtain ⟨hS, ⟨f0, f1, f2, f3, f4, f5, f6⟩, hj, ⟨dd7, dd8⟩, ⟨p0, p1, p2⟩⟩ := HF.out
        exact hK.out (x15, x16, .pointer (some ⟨t, 0, none⟩), .map mo, x19, x20, x21, x5) _ ⟨hS, ⟨(fun h => f0 (upd_ne h (by decide))), (fun h => f1 (upd_ne h (by decide))), (fun _ => rfl), (fun _ => rfl), (fun h => f4 (upd_ne h (by decide))), (fun h => f5 (upd_ne h (by decide))), (fun h => f6 (upd_ne h (by decide)))⟩, j, hj, ⟨((upd_no (by decide)).trans dd7), ((upd_no (by decide)).trans dd8)⟩, ⟨p0, p1, p2⟩⟩
      · rintro d ⟨x15, x16, x17, x18, x19, x20, x21, x5⟩ w' hI hd hdp KQ hK
        dsimp only at hI
        obtain ⟨hS, ⟨f0, f1, f2, f3, f4, f5, f6⟩, j, hj, ⟨dd7, dd8⟩, ⟨p0, p1, p2⟩⟩ := hI
        obtain ⟨cs0, cs1, cs2, cs3, cs4⟩ := HRD.out.2.1 w' hS
        have HF : Hid _ := And.intro hS (And.intro (And.intro f0 (And.intro f1 (And.intro f2 (And.intro f3 (And.intro f4 (And.intro f5 f6)))))) (And.intro hj (And.intro (And.intro dd7 dd8) (And.intro p0 (And.intro p1 p2)))))
        clear hS f0 f1 f2 f3 f4 f5 f6 hj dd7 dd8 p0 p1 p2 hdp hd
        refine Opn.mk ?_
        dsimp only
        go_simp
        obtain ⟨hS, ⟨f0, f1, f2, f3, f4, f5, f6⟩, hj, ⟨dd7, dd8⟩, ⟨p0, p1, p2⟩⟩ := HF.out
        exact hK.out (x15, x16, x17, x18, .agg #[.int .i64 k1, .int .i64 k2, .int .i64 k3, .int .i64 gp, .int .i64 gc], x20, x21, x5) _ ⟨hS, ⟨(fun h => f0 (upd_ne h (by decide))), (fun h => f1 (upd_ne h (by decide))), (fun h => f2 (upd_ne h (by decide))), (fun h => f3 (upd_ne h (by decide))), (fun _ => rfl), (fun h => f5 (upd_ne h (by decide))), (fun h => f6 (upd_ne h (by decide)))⟩, j, hj, ⟨((upd_no (by decide)).trans dd7), ((upd_no (by decide)).trans dd8)⟩, ⟨p0, p1, p2⟩⟩
      · rintro d ⟨x15, x16, x17, x18, x19, x20, x21, x5⟩ w' hI hd hdp KQ hK
        dsimp only at hI
        obtain ⟨hS, ⟨f0, f1, f2, f3, f4, f5, f6⟩, j, hj, ⟨dd7, dd8⟩, ⟨p0, p1, p2⟩⟩ := hI
        obtain rfl := f4 (hdp 4 (by decide +kernel))
        have kk := keyOf_any w' k1 k2 k3 gp gc
        unfold kv at kk
        simp only at kk
        have HF : Hid _ := And.intro hS (And.intro (And.intro f0 (And.intro f1 (And.intro f2 (And.intro f3 (And.intro f4 (And.intro f5 f6)))))) (And.intro hj (And.intro (And.intro dd7 dd8) (And.intro p0 (And.intro p1 p2)))))
        clear hS f0 f1 f2 f3 f4 f5 f6 hj dd7 dd8 p0 p1 p2 hdp hd
        refine Opn.mk ?_
        dsimp only
        go_simp
        go_wp2_with (first | (go_at_call 30; with_reducible refine kk.mono ?_; rintro e5 w5 ⟨rfl, g5⟩))
        obtain ⟨hS, ⟨f0, f1, f2, f3, f4, f5, f6⟩, hj, ⟨dd7, dd8⟩, ⟨p0, p1, p2⟩⟩ := HF.out
        refine hK.out (x15, x16, x17, x18, .agg #[.int .i64 k1, .int .i64 k2, .int .i64 k3, .int .i64 gp, .int .i64 gc], .agg #[.int .i64 k1, .int .i64 k2, .int .i64 k3], x21, x5) _ ⟨?sg, ⟨(fun h => f0 (upd_ne h (by decide))), (fun h => f1 (upd_ne h (by decide))), (fun h => f2 (upd_ne h (by decide))), (fun h => f3 (upd_ne h (by decide))), (fun _ => rfl), (fun _ => rfl), (fun h => f6 (upd_ne h (by decide)))⟩, j, hj, ⟨((upd_no (by decide)).trans dd7), ((upd_no (by decide)).trans dd8)⟩, ⟨(fun hj0 => ?u0), (fun hj0 => ?u1), (fun hj0 => ?u2)⟩⟩
        case sg => exact hS.trans (g5.below.mono hS.size)
        case u0 =>
          have s := p0 hj0
          trivial
        case u1 =>
          have s := p1 hj0
          obtain ⟨g, ea, hx, hg⟩ := s
          exact ⟨g, ea, hx.up g5.below, hg⟩
        case u2 =>
          have s := p2 hj0
          obtain ⟨g, ea, hx, hg⟩ := s
          exact ⟨g, ea, hx.up g5.below, hg⟩
      · rintro d ⟨x15, x16, x17, x18, x19, x20, x21, x5⟩ w' hI hd hdp KQ hK
        dsimp only at hI
        obtain ⟨hS, ⟨f0, f1, f2, f3, f4, f5, f6⟩, j, hj, ⟨dd7, dd8⟩, ⟨p0, p1, p2⟩⟩ := hI
        obtain rfl := f3 (hdp 3 (by decide +kernel))
        obtain rfl := f5 (hdp 5 (by decide +kernel))
        have cl := HRD.out.2.2 w' hS
        have HF : Hid _ := And.intro hS (And.intro (And.intro f0 (And.intro f1 (And.intro f2 (And.intro f3 (And.intro f4 (And.intro f5 f6)))))) (And.intro hj (And.intro (And.intro dd7 dd8) (And.intro p0 (And.intro p1 p2)))))
        clear hS f0 f1 f2 f3 f4 f5 f6 hj dd7 dd8 p0 p1 p2 hdp hd
        refine Opn.mk ?_
        dsimp only
        go_simp
        obtain ⟨hS, ⟨f0, f1, f2, f3, f4, f5, f6⟩, hj, ⟨dd7, dd8⟩, ⟨p0, p1, p2⟩⟩ := HF.out
        exact hK.out (x15, x16, x17, .map mo, x19, .agg #[.int .i64 k1, .int .i64 k2, .int .i64 k3], .agg #[.int .i64 c, (Value.slice pa np pc)], x5) _ ⟨hS, ⟨(fun h => f0 (upd_ne h (by decide))), (fun h => f1 (upd_ne h (by decide))), (fun h => f2 (upd_ne h (by decide))), (fun _ => rfl), (fun h => f4 (upd_ne h (by decide))), (fun _ => rfl), (fun _ => rfl)⟩, j, hj, ⟨((upd_no (by decide)).trans dd7), ((upd_no (by decide)).trans dd8)⟩, ⟨p0, p1, p2⟩⟩
      · rintro d ⟨x15, x16, x17, x18, x19, x20, x21, x5⟩ w' hI hd hdp KQ hK
        dsimp only at hI
        obtain ⟨hS, ⟨f0, f1, f2, f3, f4, f5, f6⟩, j, hj, ⟨dd7, dd8⟩, ⟨p0, p1, p2⟩⟩ := hI
        obtain rfl := ph_zero dd7 hd
        have s := p0 rfl
        clear p0 p1 p2 hj
        have HG : Hid _ := And.intro hS s
        clear hS s
        have HF : Hid _ := And.intro (And.intro f0 (And.intro f1 (And.intro f2 (And.intro f3 (And.intro f4 (And.intro f5 f6)))))) (And.intro dd7 dd8)
        clear f0 f1 f2 f3 f4 f5 f6 dd7 dd8 hdp hd
        refine Opn.mk ?_
        dsimp only
        go_simp
        obtain ⟨hS, s⟩ := HG.out
        obtain ⟨⟨f0, f1, f2, f3, f4, f5, f6⟩, ⟨dd7, dd8⟩⟩ := HF.out
        refine hK.out (x15, x16, x17, x18, x19, x20, x21, .pointer (some ⟨w'.heap.size, 0, none⟩)) _ ⟨?sg, ⟨(fun h => f0 (upd_ne h (by decide))), (fun h => f1 (upd_ne h (by decide))), (fun h => f2 (upd_ne h (by decide))), (fun h => f3 (upd_ne h (by decide))), (fun h => f4 (upd_ne h (by decide))), (fun h => f5 (upd_ne h (by decide))), (fun h => f6 (upd_ne h (by decide)))⟩, 1, by decide, ⟨(by simp [upd]), ((upd_no (by decide)).trans (dd8.trans (by decide)))⟩, ⟨(fun h => absurd h (by decide)), (fun _ => ?new), (fun h => absurd h (by decide))⟩⟩
        case sg => exact hS.trans (((Below.refl _ _).alloc (Nat.le_refl _) _).mono hS.size)
        case new =>
          exact ⟨_, rfl, BxA.new _ _ _, hS.size⟩
      · rintro d ⟨x15, x16, x17, x18, x19, x20, x21, x5⟩ w' hI hd hdp KQ hK
        dsimp only at hI
        obtain ⟨hS, ⟨f0, f1, f2, f3, f4, f5, f6⟩, j, hj, ⟨dd7, dd8⟩, ⟨p0, p1, p2⟩⟩ := hI
        obtain rfl := f6 (hdp 6 (by decide +kernel))
        obtain rfl := ph_eq (k := 0) dd8 hd dd7 (hdp 7 (by decide +kernel))
        have s := p1 rfl
        clear p0 p1 p2 hj
        obtain ⟨g, ea, hx, hg⟩ := s
        subst ea
        have cg0 := hx.cell 0 _ rfl
        have cg1 := hx.cell 1 _ rfl
        have cf0 := hx.free 0
        have cf1 := hx.free 1
        have HG : Hid _ := And.intro hS (And.intro hx hg)
        clear hS hx hg
        have HF : Hid _ := And.intro (And.intro f0 (And.intro f1 (And.intro f2 (And.intro f3 (And.intro f4 (And.intro f5 f6)))))) (And.intro dd7 dd8)
        clear f0 f1 f2 f3 f4 f5 f6 dd7 dd8 hdp hd
        refine Opn.mk ?_
        dsimp only
        go_simp
        obtain ⟨hS, hx, hg⟩ := HG.out
        obtain ⟨⟨f0, f1, f2, f3, f4, f5, f6⟩, ⟨dd7, dd8⟩⟩ := HF.out
        refine hK.out (x15, x16, x17, x18, x19, x20, .agg #[.int .i64 c, (Value.slice pa np pc)], .pointer (some ⟨g, 0, none⟩)) _ ⟨?sg, ⟨(fun h => f0 (upd_ne h (by decide))), (fun h => f1 (upd_ne h (by decide))), (fun h => f2 (upd_ne h (by decide))), (fun h => f3 (upd_ne h (by decide))), (fun h => f4 (upd_ne h (by decide))), (fun h => f5 (upd_ne h (by decide))), (fun _ => rfl)⟩, 2, by decide, ⟨((upd_no (by decide)).trans (dd7.trans (by decide))), (by simp [upd])⟩, ⟨(fun h => absurd h (by decide)), (fun h => absurd h (by decide)), (fun _ => ?new)⟩⟩
        case sg => exact below_setG (below_setG hS hg) hg
        case new =>
          exact ⟨_, rfl, BxA.set (BxA.set hx 0 _) 1 _, hg⟩
    case he2000 =>
      rintro d ⟨x15, x16, x17, x18, x19, x20, x21, x5⟩ w' hall hI
      dsimp only at hI
      obtain ⟨hS, ⟨f0, f1, f2, f3, f4, f5, f6⟩, j, hj, ⟨dd7, dd8⟩, ⟨p0, p1, p2⟩⟩ := hI
      obtain rfl := ph_end (k := 1) hj dd8 (hall 8 (by decide))
      have s := p2 rfl

      clear hall hj f0 f1 f2 f3 f4 f5 f6 dd7 dd8 p0 p1 p2
      obtain ⟨gb, ea, hx, hg⟩ := s
      subst ea
      obtain ⟨cs0, cs1, cs2, cs3, cs4⟩ := HRD.out.2.1 w' hS
      have kB := bs_own w' (Value.slice pa np pc) ps gp (own_below HOW.out hS) HPL.out HUP.out
      have cg1 := hx.cell 1 _ rfl
      obtain ⟨at', hat⟩ : ∃ a, a = ps.countP (· < gp) := ⟨_, rfl⟩
      obtain ⟨tw, htw⟩ : ∃ a, a = ps.contains gp := ⟨_, rfl⟩
      rw [← hat, ← htw] at kB
      have HAT := hide hat
      have HTW := hide htw
      have HX : Hid (BxA w' gb 67 #[.int .i64 c, (Value.slice pa np pc)] ∧ W.heap.size ≤ gb) := ⟨hx, hg⟩
      have HS5 : Hid (Below W.heap.size W w') := hS
      clear hS hx hg hat htw hSig0 hS00 cs0 cs1 cs2
      try dsimp only
      go_wp2_with fail
      refine kB.mono ?_
      rintro ev V ⟨rfl, g6⟩
      go_upto_region 5 with fail
      clear kB cs3 cs4 cg1
      have HBV : Hid (Below W.heap.size W V) := HS5.out.trans (g6.below.mono HS5.out.size)
      have HT1 : Hid (Tw w V t F s F) := HT0.out.grow HBV.out
      have HGV : Hid (BxA V gb 67 #[.int .i64 c, (Value.slice pa np pc)]) := HX.out.1.up g6.below
      have HSV : Hid (BxA V b3 32 #[.int .i64 k1, .int .i64 k2, .int .i64 k3, .int .i64 gp, .int .i64 gc]) := HBW.out.up HBV.out
      have ct0 := HGV.out.cell 0 _ rfl
      have cs4 := HSV.out.cell 4 _ rfl
      clear g6
      have HNO : Hid ((tw = false ∨ c ≠ gc) → AdP w t F (remF s ((k1, k2, k3), gp, gc)) (.returned (.int .i64 120)) V) := by
        intro hn
        rcases HSY.out with ⟨ho, _, hf⟩ | ⟨ho, hp, hf⟩
        · rw [remF_no HQ.out.symm hf (hn.imp (fun q => HTW.out.symm.trans q) id)]
          exact ⟨rfl, _, HT1.out⟩
        · rw [remF_out HQ.out.symm hf]
          exact ⟨rfl, _, HT1.out⟩
      cases tw
      case false =>
        have HE := hide (HNO.out (.inl rfl))
        go_wp2_with fail
        go_ret
        exact HE.out
      case true =>
        by_cases hform : c = gc
        case neg =>
          have HE := hide (HNO.out (.inr hform))
          have hb1 : (c != gc) = true := by simpa using hform
          go_wp2_with fail
          go_ret
          exact HE.out
        case pos =>
          have HFM := hide hform
          have hb1 : (c != gc) = false := by simp [hform]
          clear hform
          have hmem : gp ∈ ps := by have := HTW.out; simpa using this.symm
          obtain ⟨hatl, hate⟩ := at_count HUP.out hmem
          rw [← HAT.out] at hatl
          have HLT := hide hatl
          have HMEM := hide hmem
          obtain ⟨ho1, hin, hfind⟩ : ob = true ∧ ((k1, k2, k3), c, ps) ∈ s ∧ s.find? (fun e => e.1 == (k1, k2, k3)) = some ((k1, k2, k3), c, ps) := by
            rcases HSY.out with q | ⟨_, hp, _⟩
            · exact q
            · rw [hp] at hmem; cases hmem
          have hen : (⟨(k1, k2, k3), c, (Value.slice pa np pc), ps⟩ : En) ∈ Z := by
            rcases HFN.out.cs with ⟨_, q⟩ | ⟨_, _, _, _, q⟩
            · exact q
            · rw [q] at hmem; cases hmem
          obtain ⟨m, D, rfl, hDo, hDm⟩ : ∃ m D, mo = some m ∧ W.ownsMap Try.prog 55 sel m Z.length D ∧ MD D Z := by
            rcases HZW.out.m with ⟨h1, h2⟩ | ⟨m', D, h1, h2, h3⟩
            · rw [h2] at hen; cases hen
            · exact ⟨m', D, h1, h2, h3⟩
          have HEN := hide hen
          have HMW := hide hDo
          have HMD := hide hDm
          have HNM : Hid (some m ≠ (Value.slice pa np pc).ownBlock) := map_away HOW.out hDo
          have HFIND := hide hfind
          have kD := del_int V (Value.slice pa np pc) ps at' (own_below HOW.out HBV.out) hatl HPL.out
          have hatz : (at' : Int) < 100000 := by have := HPL.out; omega
          have hw1 : IntKind.i64.wrap ((at' : Int) + 1) = (at' : Int) + 1 := by rw [IntKind.wrap_i64]; omega
          have cg1 := HGV.out.cell 1 _ rfl
          clear hmem hatl hate ho1 hin hfind hen hDo hDm
          go_wp2_with fail
          refine kD.mono ?_
          rintro ev V2 ⟨v', rfl, rn, hvb⟩
          obtain ⟨va, vc, ev'⟩ := own_sl rn.own
          subst ev'
          have hdel : ps.take at' ++ ps.drop (at' + 1) = delP ps gp := by unfold delP; rw [← HAT.out]
          rw [hdel] at rn
          obtain ⟨dn, hdn⟩ : ∃ dn, dn = (delP ps gp).length := ⟨_, rfl⟩
          rw [hdel, ← hdn] at hvb
          have HRN : Hid (W.grownBy V2 (Value.slice pa np pc).ownBlock ∧ OwI V2 (.slice va dn vc) (delP ps gp) ∧ (Value.slice va dn vc).ownBlock = (Value.slice pa np pc).ownBlock) := by
            refine ⟨grown_trans (grown_of_below HBV.out _) rn.grown, ?_, hvb⟩
            rw [hdn]; exact rn.own
          have hGV2 : BxA V2 gb 67 #[.int .i64 c, (Value.slice pa np pc)] := by
            have hl := HGV.out.lt
            have hne : some gb ≠ (Value.slice pa np pc).ownBlock := fun q => by
              have h1 := (own_lt HOW.out _ q.symm).2
              have h2 := HX.out.2
              omega
            have := HGV.out
            unfold BxA at this ⊢
            rw [rn.grown.block gb hl hne]
            exact this
          rw [hdel, ← hdn]
          have HDN := hide hdn
          have hfr1 := hGV2.free 1
          have hU := hGV2.set 1 (.slice va dn vc)
          obtain ⟨U, hUe⟩ : ∃ U, U = V2.setCell ⟨gb, 1, none⟩ (.slice va dn vc) := ⟨_, rfl⟩
          rw [← hUe] at hU
          have HU : Hid (BxA U gb 67 #[.int .i64 c, .slice va dn vc]) := hU
          have HGU : Hid (W.grownBy U (Value.slice pa np pc).ownBlock) := by apply hide; rw [hUe]; exact grown_setG HRN.out.1 HX.out.2
          have HOU : Hid (OwI U (.slice va dn vc) (delP ps gp)) := by
            apply hide
            rw [hUe]
            refine owns_block HRN.out.2.1 fun r hr => Below.heap_setCell _ _ _ _ (fun q => ?_)
            have h1 : (Value.slice pa np pc).ownBlock = some r := HRN.out.2.2 ▸ hr
            have h2 := (own_lt HOW.out _ h1).2
            have h3 := HX.out.2
            have h4 : r = gb := q
            omega
          have HUe := hide hUe
          have HNDN : Hid (dn ≤ 100000) := by apply hide; have h1 := delP_len HUP.out HMEM.out; have h2 := HPL.out; omega
          have cgu := HU.out.cell 1 _ rfl
          clear rn hvb hdel hdn hUe hU kD
          have hdz : (dn : Int) ≤ 100000 := by have := HNDN.out; omega
          have cv1 : V2.cell? ⟨gb, 1, none⟩ = some (Value.slice pa np pc) := hGV2.cell 1 _ rfl
          clear hGV2
          by_cases hd0 : dn = 0
          case pos =>
            have hd1 : ((dn : Int) == 0) = true := by rw [hd0]; rfl
            have HD0 := hide hd0
            clear hd0
            go_upto_region 9 with fail
            rw [← HUe.out]
            clear hd1 cv1 hfr1 cgu ct0 cs4 cg1
            have HMU : Hid (U.ownsMap Try.prog 55 sel m Z.length D) := HMW.out.kept HGU.out HNM.out
            have HTU : Hid (BxA U t 63 #[.map (some m)]) := by
              apply hide
              have hb := HZW.out.b
              have hl := hb.lt
              have hne := bxa_away hb (by decide) HOW.out HMW.out
              unfold BxA at hb ⊢
              rw [HGU.out.block t hl (fun q => hne (.inl q.symm))]
              exact hb
            have HSU : Hid (BxA U b3 32 #[.int .i64 k1, .int .i64 k2, .int .i64 k3, .int .i64 gp, .int .i64 gc]) := by
              apply hide
              have hb := HBW.out
              have hl := hb.lt
              have hne := bxa_away hb (by decide) HOW.out HMW.out
              unfold BxA at hb ⊢
              rw [HGU.out.block b3 hl (fun q => hne (.inl q.symm))]
              exact hb
            have HQD : Hid ((∀ w', Fr (fun i => i = m) U w' → w'.cell? ⟨t, 0, none⟩ = some (.map (some m))) ∧ (∀ w', Fr (fun i => i = m) U w' → w'.cell? ⟨b3, 0, none⟩ = some (.int .i64 k1) ∧ w'.cell? ⟨b3, 1, none⟩ = some (.int .i64 k2) ∧ w'.cell? ⟨b3, 2, none⟩ = some (.int .i64 k3) ∧ w'.cell? ⟨b3, 3, none⟩ = some (.int .i64 gp) ∧ w'.cell? ⟨b3, 4, none⟩ = some (.int .i64 gc)) ∧ (∀ w', Fr (fun i => i = m) U w' → w'.cell? ⟨gb, 0, none⟩ = some (.int .i64 c) ∧ w'.cell? ⟨gb, 1, none⟩ = some (.slice va dn vc))) := by
              refine ⟨fun w' hb => (HTU.out.fr hb (bxa_map HTU.out HMU.out)).cell 0 _ rfl, fun w' hb => ?_, fun w' hb => ?_⟩
              · have hx := HSU.out.fr hb (bxa_map HSU.out HMU.out)
                exact ⟨hx.cell 0 _ rfl, hx.cell 1 _ rfl, hx.cell 2 _ rfl, hx.cell 3 _ rfl, hx.cell 4 _ rfl⟩
              · have hx := HU.out.fr hb (bxa_map HU.out HMU.out)
                exact ⟨hx.cell 0 _ rfl, hx.cell 1 _ rfl⟩
            have HVB : Hid (∀ r, (Value.slice va dn vc).ownBlock = some r → (Value.slice pa np pc).ownBlock = some r ∨ W.heap.size ≤ r) := fun r hr => .inl (HRN.out.2.2 ▸ hr)
            have HEND : Hid (∀ (F' : Nat → Prop) (w9 : World), Tw W w9 t F (if (delP ps gp).length = 0 then s.filter (fun x => !decide (x.1 = (k1, k2, k3))) else updE s (k1, k2, k3) (delP ps gp)) F' → AdP w t F (remF s ((k1, k2, k3), gp, gc)) (.returned (.int .i64 0)) w9) := by
              intro F' w9 q
              rw [remF_yes HQ.out.symm HFIND.out HTW.out.symm HFM.out]
              exact ⟨rfl, _, HT0.out.trans q⟩
            have hSig0 : Fr (fun i => i = m) U U.drew := Fr.of_below (Below.refl _ _).drew
            have hS00 : W.grownBy U.drew (Value.slice pa np pc).ownBlock ∧ OwI U.drew (.slice va dn vc) (delP ps gp) := ⟨grown_trans HGU.out (grown_of_below (Below.refl _ _).drew _), own_below HOU.out (Below.refl _ _).drew⟩
            refine wp_region_invF (β := Value × Value × Value × Value × Value × Value) (fun a0 xq => ((((((a0.put (some 50) (xq.1)).put (some 51) (xq.2.1)).put (some 52) (xq.2.2.1)).put (some 53) (xq.2.2.2.1)).put (some 54) (xq.2.2.2.2.1)).put (some 55) (xq.2.2.2.2.2))) ?fr2001 (fun xq d w' => (Fr (fun i => i = m) U w') ∧ ((d 0 = true → (xq.1) = .pointer (some ⟨t, 0, none⟩)) ∧ (d 1 = true → (xq.2.1) = .pointer (some ⟨t, 0, none⟩)) ∧ (d 2 = true → (xq.2.2.1) = .pointer (some ⟨t, 0, none⟩)) ∧ (d 3 = true → (xq.2.2.2.1) = .map (some m)) ∧ (d 4 = true → (xq.2.2.2.2.1) = .agg #[.int .i64 k1, .int .i64 k2, .int .i64 k3, .int .i64 gp, .int .i64 gc]) ∧ (d 5 = true → (xq.2.2.2.2.2) = .agg #[.int .i64 k1, .int .i64 k2, .int .i64 k3])) ∧ ∃ j : Nat, j ≤ 1 ∧ (d 6 = decide (0 < j)) ∧ ((j = 0 → W.grownBy w' (Value.slice pa np pc).ownBlock ∧ OwI w' (Value.slice va dn vc) (delP ps gp)) ∧ (j = 1 → ∃ F' : Nat → Prop, Tw W w' t F (if (delP ps gp).length = 0 then s.filter (fun x => !decide (x.1 = (k1, k2, k3))) else updE s (k1, k2, k3) (delP ps gp)) F'))) ?lay2001 mixed (by kernel_rfl) ?h02001 ?hs2001 ?he2001
            case lay2001 =>
              intro xq
              simp only [Act.put, List.setIfInBounds_toArray, List.set_cons_zero, List.set_cons_succ]
              rfl
            case h02001 =>
              refine ⟨(undef, undef, undef, undef, undef, undef), rfl, ?sig2001, ⟨(fun h => by cases h), (fun h => by cases h), (fun h => by cases h), (fun h => by cases h), (fun h => by cases h), (fun h => by cases h)⟩, 0, Nat.zero_le _, rfl, ?S02001, (fun h => by cases h)⟩
              case sig2001 => exact hSig0
              case S02001 => exact fun _ => hS00
            case hs2001 =>
              refine ⟨?_, ?_, ?_, ?_, ?_, ?_, ?_, trivial⟩
              · rintro d ⟨x50, x51, x52, x53, x54, x55⟩ w' hI hd hdp KQ hK
                dsimp only at hI
                obtain ⟨hS, ⟨f0, f1, f2, f3, f4, f5⟩, j, hj, dd6, ⟨p0, p1⟩⟩ := hI
                have HF : Hid _ := And.intro hS (And.intro (And.intro f0 (And.intro f1 (And.intro f2 (And.intro f3 (And.intro f4 f5))))) (And.intro hj (And.intro dd6 (And.intro p0 p1))))
                clear hS f0 f1 f2 f3 f4 f5 hj dd6 p0 p1 hdp hd
                refine Opn.mk ?_
                dsimp only
                go_simp
                obtain ⟨hS, ⟨f0, f1, f2, f3, f4, f5⟩, hj, dd6, ⟨p0, p1⟩⟩ := HF.out
                exact hK.out (.pointer (some ⟨t, 0, none⟩), x51, x52, x53, x54, x55) _ ⟨hS, ⟨(fun _ => rfl), (fun h => f1 (upd_ne h (by decide))), (fun h => f2 (upd_ne h (by decide))), (fun h => f3 (upd_ne h (by decide))), (fun h => f4 (upd_ne h (by decide))), (fun h => f5 (upd_ne h (by decide)))⟩, j, hj, ((upd_no (by decide)).trans dd6), ⟨p0, p1⟩⟩
              · rintro d ⟨x50, x51, x52, x53, x54, x55⟩ w' hI hd hdp KQ hK
                dsimp only at hI
                obtain ⟨hS, ⟨f0, f1, f2, f3, f4, f5⟩, j, hj, dd6, ⟨p0, p1⟩⟩ := hI
                obtain rfl := f0 (hdp 0 (by decide +kernel))
                have HF : Hid _ := And.intro hS (And.intro (And.intro f0 (And.intro f1 (And.intro f2 (And.intro f3 (And.intro f4 f5))))) (And.intro hj (And.intro dd6 (And.intro p0 p1))))
                clear hS f0 f1 f2 f3 f4 f5 hj dd6 p0 p1 hdp hd
                refine Opn.mk ?_
                dsimp only
                go_simp
                obtain ⟨hS, ⟨f0, f1, f2, f3, f4, f5⟩, hj, dd6, ⟨p0, p1⟩⟩ := HF.out
                exact hK.out (.pointer (some ⟨t, 0, none⟩), .pointer (some ⟨t, 0, none⟩), x52, x53, x54, x55) _ ⟨hS, ⟨(fun _ => rfl), (fun _ => rfl), (fun h => f2 (upd_ne h (by decide))), (fun h => f3 (upd_ne h (by decide))), (fun h => f4 (upd_ne h (by decide))), (fun h => f5 (upd_ne h (by decide)))⟩, j, hj, ((upd_no (by decide)).trans dd6), ⟨p0, p1⟩⟩
              · rintro d ⟨x50, x51, x52, x53, x54, x55⟩ w' hI hd hdp KQ hK
                dsimp only at hI
                obtain ⟨hS, ⟨f0, f1, f2, f3, f4, f5⟩, j, hj, dd6, ⟨p0, p1⟩⟩ := hI
                obtain rfl := f1 (hdp 1 (by decide +kernel))
                have HF : Hid _ := And.intro hS (And.intro (And.intro f0 (And.intro f1 (And.intro f2 (And.intro f3 (And.intro f4 f5))))) (And.intro hj (And.intro dd6 (And.intro p0 p1))))
                clear hS f0 f1 f2 f3 f4 f5 hj dd6 p0 p1 hdp hd
                refine Opn.mk ?_
                dsimp only
                go_simp
                obtain ⟨hS, ⟨f0, f1, f2, f3, f4, f5⟩, hj, dd6, ⟨p0, p1⟩⟩ := HF.out
                exact hK.out (x50, .pointer (some ⟨t, 0, none⟩), .pointer (some ⟨t, 0, none⟩), x53, x54, x55) _ ⟨hS, ⟨(fun h => f0 (upd_ne h (by decide))), (fun _ => rfl), (fun _ => rfl), (fun h => f3 (upd_ne h (by decide))), (fun h => f4 (upd_ne h (by decide))), (fun h => f5 (upd_ne h (by decide)))⟩, j, hj, ((upd_no (by decide)).trans dd6), ⟨p0, p1⟩⟩
              · rintro d ⟨x50, x51, x52, x53, x54, x55⟩ w' hI hd hdp KQ hK
                dsimp only at hI
                obtain ⟨hS, ⟨f0, f1, f2, f3, f4, f5⟩, j, hj, dd6, ⟨p0, p1⟩⟩ := hI
                obtain rfl := f2 (hdp 2 (by decide +kernel))
                have cc := HQD.out.1 w' hS
                have HF : Hid _ := And.intro hS (And.intro (And.intro f0 (And.intro f1 (And.intro f2 (And.intro f3 (And.intro f4 f5))))) (And.intro hj (And.intro dd6 (And.intro p0 p1))))
                clear hS f0 f1 f2 f3 f4 f5 hj dd6 p0 p1 hdp hd
                refine Opn.mk ?_
                dsimp only
                go_simp
                obtain ⟨hS, ⟨f0, f1, f2, f3, f4, f5⟩, hj, dd6, ⟨p0, p1⟩⟩ := HF.out
                exact hK.out (x50, x51, .pointer (some ⟨t, 0, none⟩), .map (some m), x54, x55) _ ⟨hS, ⟨(fun h => f0 (upd_ne h (by decide))), (fun h => f1 (upd_ne h (by decide))), (fun _ => rfl), (fun _ => rfl), (fun h => f4 (upd_ne h (by decide))), (fun h => f5 (upd_ne h (by decide)))⟩, j, hj, ((upd_no (by decide)).trans dd6), ⟨p0, p1⟩⟩
              · rintro d ⟨x50, x51, x52, x53, x54, x55⟩ w' hI hd hdp KQ hK
                dsimp only at hI
                obtain ⟨hS, ⟨f0, f1, f2, f3, f4, f5⟩, j, hj, dd6, ⟨p0, p1⟩⟩ := hI
                obtain ⟨cs0, cs1, cs2, cs3, cs4⟩ := HQD.out.2.1 w' hS
                have HF : Hid _ := And.intro hS (And.intro (And.intro f0 (And.intro f1 (And.intro f2 (And.intro f3 (And.intro f4 f5))))) (And.intro hj (And.intro dd6 (And.intro p0 p1))))
                clear hS f0 f1 f2 f3 f4 f5 hj dd6 p0 p1 hdp hd
                refine Opn.mk ?_
                dsimp only
                go_simp
                obtain ⟨hS, ⟨f0, f1, f2, f3, f4, f5⟩, hj, dd6, ⟨p0, p1⟩⟩ := HF.out
                exact hK.out (x50, x51, x52, x53, .agg #[.int .i64 k1, .int .i64 k2, .int .i64 k3, .int .i64 gp, .int .i64 gc], x55) _ ⟨hS, ⟨(fun h => f0 (upd_ne h (by decide))), (fun h => f1 (upd_ne h (by decide))), (fun h => f2 (upd_ne h (by decide))), (fun h => f3 (upd_ne h (by decide))), (fun _ => rfl), (fun h => f5 (upd_ne h (by decide)))⟩, j, hj, ((upd_no (by decide)).trans dd6), ⟨p0, p1⟩⟩
              · rintro d ⟨x50, x51, x52, x53, x54, x55⟩ w' hI hd hdp KQ hK
                dsimp only at hI
                obtain ⟨hS, ⟨f0, f1, f2, f3, f4, f5⟩, j, hj, dd6, ⟨p0, p1⟩⟩ := hI
                obtain rfl := f4 (hdp 4 (by decide +kernel))
                have kk := keyOf_any w' k1 k2 k3 gp gc
                unfold kv at kk
                simp only at kk
                have HF : Hid _ := And.intro hS (And.intro (And.intro f0 (And.intro f1 (And.intro f2 (And.intro f3 (And.intro f4 f5))))) (And.intro hj (And.intro dd6 (And.intro p0 p1))))
                clear hS f0 f1 f2 f3 f4 f5 hj dd6 p0 p1 hdp hd
                refine Opn.mk ?_
                dsimp only
                go_simp
                go_wp2_with (first | (go_at_call 30; with_reducible refine kk.mono ?_; rintro e5 w5 ⟨rfl, g5⟩))
                obtain ⟨hS, ⟨f0, f1, f2, f3, f4, f5⟩, hj, dd6, ⟨p0, p1⟩⟩ := HF.out
                refine hK.out (x50, x51, x52, x53, .agg #[.int .i64 k1, .int .i64 k2, .int .i64 k3, .int .i64 gp, .int .i64 gc], .agg #[.int .i64 k1, .int .i64 k2, .int .i64 k3]) _ ⟨?sg, ⟨(fun h => f0 (upd_ne h (by decide))), (fun h => f1 (upd_ne h (by decide))), (fun h => f2 (upd_ne h (by decide))), (fun h => f3 (upd_ne h (by decide))), (fun _ => rfl), (fun _ => rfl)⟩, j, hj, ((upd_no (by decide)).trans dd6), ⟨(fun hj0 => ?u0), (fun hj0 => ?u1)⟩⟩
                case sg => exact hS.trans (Fr.of_below g5.below) fun _ _ h => h
                case u0 =>
                  have s := p0 hj0
                  exact ⟨grown_trans s.1 (grown_of_below g5.below _), own_below s.2 g5.below⟩
                case u1 =>
                  have s := p1 hj0
                  obtain ⟨F', q⟩ := s
                  exact ⟨F', q.grow g5.below⟩
              · rintro d ⟨x50, x51, x52, x53, x54, x55⟩ w' hI hd hdp KQ hK
                dsimp only at hI
                obtain ⟨hS, ⟨f0, f1, f2, f3, f4, f5⟩, j, hj, dd6, ⟨p0, p1⟩⟩ := hI
                obtain rfl := f3 (hdp 3 (by decide +kernel))
                obtain rfl := f5 (hdp 5 (by decide +kernel))
                obtain rfl := ph_zero dd6 hd
                have s := p0 rfl
                clear p0 p1 hj
                obtain ⟨sg0, sg2⟩ := s
                obtain ⟨w6, hrun, r1, r2⟩ := World.ownsMap.drop (HMW.out.kept sg0 HNM.out) law Try.underlying61 (key_mk (k1, k2, k3) HB3.out) 0
                unfold kv at hrun
                simp only at hrun
                have HG : Hid _ := And.intro hS (And.intro sg0 (And.intro sg2 (And.intro r1 r2.grown)))
                clear hS sg0 sg2 r1 r2
                have HF : Hid _ := And.intro (And.intro f0 (And.intro f1 (And.intro f2 (And.intro f3 (And.intro f4 f5))))) dd6
                clear f0 f1 f2 f3 f4 f5 dd6 hdp hd
                refine Opn.mk ?_
                dsimp only
                go_simp
                obtain ⟨hS, sg0, sg2, r1, r2⟩ := HG.out
                obtain ⟨⟨f0, f1, f2, f3, f4, f5⟩, dd6⟩ := HF.out
                refine hK.out (x50, x51, x52, .map (some m), x54, .agg #[.int .i64 k1, .int .i64 k2, .int .i64 k3]) _ ⟨?sg, ⟨(fun h => f0 (upd_ne h (by decide))), (fun h => f1 (upd_ne h (by decide))), (fun h => f2 (upd_ne h (by decide))), (fun _ => rfl), (fun h => f4 (upd_ne h (by decide))), (fun _ => rfl)⟩, 1, by decide, (by simp [upd]), ⟨(fun h => absurd h (by decide)), (fun _ => ?new)⟩⟩
                case sg => exact hS.trans (Fr.of_grown (F := fun i => i = m) r2 fun j hj => .inl (Option.some.inj hj).symm) fun _ _ h => h
                case new =>
                  refine ⟨F, ?_⟩
                  rw [if_pos (by rw [← HDN.out]; exact HD0.out)]
                  exact tl_del (e := ⟨(k1, k2, k3), c, (Value.slice pa np pc), ps⟩) HZW.out HEN.out sg0 HMW.out HMD.out r1 r2
            case he2001 =>
              rintro d ⟨x50, x51, x52, x53, x54, x55⟩ w' hall hI
              dsimp only at hI
              obtain ⟨hS, ⟨f0, f1, f2, f3, f4, f5⟩, j, hj, dd6, ⟨p0, p1⟩⟩ := hI
              obtain rfl := ph_end (k := 0) hj dd6 (hall 6 (by decide))
              have s := p1 rfl

              clear hall hj f0 f1 f2 f3 f4 f5 dd6 p0 p1
              obtain ⟨F', q⟩ := s
              have HT : Hid _ := q
              clear q hS
              try dsimp only
              go_wp2_with fail
              go_ret
              exact HEND.out F' _ HT.out
          case neg =>
            have hd1 : ((dn : Int) == 0) = false := by simpa using hd0
            have HD0 := hide hd0
            clear hd0
            go_upto_region 10 with fail
            rw [← HUe.out]
            clear hd1 cv1 hfr1 cgu ct0 cs4 cg1
            have HMU : Hid (U.ownsMap Try.prog 55 sel m Z.length D) := HMW.out.kept HGU.out HNM.out
            have HTU : Hid (BxA U t 63 #[.map (some m)]) := by
              apply hide
              have hb := HZW.out.b
              have hl := hb.lt
              have hne := bxa_away hb (by decide) HOW.out HMW.out
              unfold BxA at hb ⊢
              rw [HGU.out.block t hl (fun q => hne (.inl q.symm))]
              exact hb
            have HSU : Hid (BxA U b3 32 #[.int .i64 k1, .int .i64 k2, .int .i64 k3, .int .i64 gp, .int .i64 gc]) := by
              apply hide
              have hb := HBW.out
              have hl := hb.lt
              have hne := bxa_away hb (by decide) HOW.out HMW.out
              unfold BxA at hb ⊢
              rw [HGU.out.block b3 hl (fun q => hne (.inl q.symm))]
              exact hb
            have HQD : Hid ((∀ w', Fr (fun i => i = m) U w' → w'.cell? ⟨t, 0, none⟩ = some (.map (some m))) ∧ (∀ w', Fr (fun i => i = m) U w' → w'.cell? ⟨b3, 0, none⟩ = some (.int .i64 k1) ∧ w'.cell? ⟨b3, 1, none⟩ = some (.int .i64 k2) ∧ w'.cell? ⟨b3, 2, none⟩ = some (.int .i64 k3) ∧ w'.cell? ⟨b3, 3, none⟩ = some (.int .i64 gp) ∧ w'.cell? ⟨b3, 4, none⟩ = some (.int .i64 gc)) ∧ (∀ w', Fr (fun i => i = m) U w' → w'.cell? ⟨gb, 0, none⟩ = some (.int .i64 c) ∧ w'.cell? ⟨gb, 1, none⟩ = some (.slice va dn vc))) := by
              refine ⟨fun w' hb => (HTU.out.fr hb (bxa_map HTU.out HMU.out)).cell 0 _ rfl, fun w' hb => ?_, fun w' hb => ?_⟩
              · have hx := HSU.out.fr hb (bxa_map HSU.out HMU.out)
                exact ⟨hx.cell 0 _ rfl, hx.cell 1 _ rfl, hx.cell 2 _ rfl, hx.cell 3 _ rfl, hx.cell 4 _ rfl⟩
              · have hx := HU.out.fr hb (bxa_map HU.out HMU.out)
                exact ⟨hx.cell 0 _ rfl, hx.cell 1 _ rfl⟩
            have HVB : Hid (∀ r, (Value.slice va dn vc).ownBlock = some r → (Value.slice pa np pc).ownBlock = some r ∨ W.heap.size ≤ r) := fun r hr => .inl (HRN.out.2.2 ▸ hr)
            have HEND : Hid (∀ (F' : Nat → Prop) (w9 : World), Tw W w9 t F (if (delP ps gp).length = 0 then s.filter (fun x => !decide (x.1 = (k1, k2, k3))) else updE s (k1, k2, k3) (delP ps gp)) F' → AdP w t F (remF s ((k1, k2, k3), gp, gc)) (.returned (.int .i64 0)) w9) := by
              intro F' w9 q
              rw [remF_yes HQ.out.symm HFIND.out HTW.out.symm HFM.out]
              exact ⟨rfl, _, HT0.out.trans q⟩
            have hSig0 : Fr (fun i => i = m) U U.drew := Fr.of_below (Below.refl _ _).drew
            have hS00 : W.grownBy U.drew (Value.slice pa np pc).ownBlock ∧ OwI U.drew (.slice va dn vc) (delP ps gp) := ⟨grown_trans HGU.out (grown_of_below (Below.refl _ _).drew _), own_below HOU.out (Below.refl _ _).drew⟩
            refine wp_region_invF (β := Value × Value × Value × Value × Value × Value × Value) (fun a0 xq => (((((((a0.put (some 56) (xq.1)).put (some 57) (xq.2.1)).put (some 58) (xq.2.2.1)).put (some 59) (xq.2.2.2.1)).put (some 60) (xq.2.2.2.2.1)).put (some 61) (xq.2.2.2.2.2.1)).put (some 62) (xq.2.2.2.2.2.2))) ?fr2002 (fun xq d w' => (Fr (fun i => i = m) U w') ∧ ((d 0 = true → (xq.1) = .pointer (some ⟨t, 0, none⟩)) ∧ (d 1 = true → (xq.2.1) = .pointer (some ⟨t, 0, none⟩)) ∧ (d 2 = true → (xq.2.2.1) = .pointer (some ⟨t, 0, none⟩)) ∧ (d 3 = true → (xq.2.2.2.1) = .map (some m)) ∧ (d 4 = true → (xq.2.2.2.2.1) = .agg #[.int .i64 k1, .int .i64 k2, .int .i64 k3, .int .i64 gp, .int .i64 gc]) ∧ (d 5 = true → (xq.2.2.2.2.2.1) = .agg #[.int .i64 k1, .int .i64 k2, .int .i64 k3]) ∧ (d 6 = true → (xq.2.2.2.2.2.2) = .agg #[.int .i64 c, .slice va dn vc])) ∧ ∃ j : Nat, j ≤ 1 ∧ (d 7 = decide (0 < j)) ∧ ((j = 0 → W.grownBy w' (Value.slice pa np pc).ownBlock ∧ OwI w' (Value.slice va dn vc) (delP ps gp)) ∧ (j = 1 → ∃ F' : Nat → Prop, Tw W w' t F (if (delP ps gp).length = 0 then s.filter (fun x => !decide (x.1 = (k1, k2, k3))) else updE s (k1, k2, k3) (delP ps gp)) F'))) ?lay2002 mixed (by kernel_rfl) ?h02002 ?hs2002 ?he2002
            case lay2002 =>
              intro xq
              simp only [Act.put, List.setIfInBounds_toArray, List.set_cons_zero, List.set_cons_succ]
              rfl
            case h02002 =>
              refine ⟨(undef, undef, undef, undef, undef, undef, undef), rfl, ?sig2002, ⟨(fun h => by cases h), (fun h => by cases h), (fun h => by cases h), (fun h => by cases h), (fun h => by cases h), (fun h => by cases h), (fun h => by cases h)⟩, 0, Nat.zero_le _, rfl, ?S02002, (fun h => by cases h)⟩
              case sig2002 => exact hSig0
              case S02002 => exact fun _ => hS00
            case hs2002 =>
              refine ⟨?_, ?_, ?_, ?_, ?_, ?_, ?_, ?_, trivial⟩
              · rintro d ⟨x56, x57, x58, x59, x60, x61, x62⟩ w' hI hd hdp KQ hK
                dsimp only at hI
                obtain ⟨hS, ⟨f0, f1, f2, f3, f4, f5, f6⟩, j, hj, dd7, ⟨p0, p1⟩⟩ := hI
                have HF : Hid _ := And.intro hS (And.intro (And.intro f0 (And.intro f1 (And.intro f2 (And.intro f3 (And.intro f4 (And.intro f5 f6)))))) (And.intro hj (And.intro dd7 (And.intro p0 p1))))
                clear hS f0 f1 f2 f3 f4 f5 f6 hj dd7 p0 p1 hdp hd
                refine Opn.mk ?_
                dsimp only
                go_simp
                obtain ⟨hS, ⟨f0, f1, f2, f3, f4, f5, f6⟩, hj, dd7, ⟨p0, p1⟩⟩ := HF.out
                exact hK.out (.pointer (some ⟨t, 0, none⟩), x57, x58, x59, x60, x61, x62) _ ⟨hS, ⟨(fun _ => rfl), (fun h => f1 (upd_ne h (by decide))), (fun h => f2 (upd_ne h (by decide))), (fun h => f3 (upd_ne h (by decide))), (fun h => f4 (upd_ne h (by decide))), (fun h => f5 (upd_ne h (by decide))), (fun h => f6 (upd_ne h (by decide)))⟩, j, hj, ((upd_no (by decide)).trans dd7), ⟨p0, p1⟩⟩
              · rintro d ⟨x56, x57, x58, x59, x60, x61, x62⟩ w' hI hd hdp KQ hK
                dsimp only at hI
                obtain ⟨hS, ⟨f0, f1, f2, f3, f4, f5, f6⟩, j, hj, dd7, ⟨p0, p1⟩⟩ := hI
                obtain rfl := f0 (hdp 0 (by decide +kernel))
                have HF : Hid _ := And.intro hS (And.intro (And.intro f0 (And.intro f1 (And.intro f2 (And.intro f3 (And.intro f4 (And.intro f5 f6)))))) (And.intro hj (And.intro dd7 (And.intro p0 p1))))
                clear hS f0 f1 f2 f3 f4 f5 f6 hj dd7 p0 p1 hdp hd
                refine Opn.mk ?_
                dsimp only
                go_simp
                obtain ⟨hS, ⟨f0, f1, f2, f3, f4, f5, f6⟩, hj, dd7, ⟨p0, p1⟩⟩ := HF.out
                exact hK.out (.pointer (some ⟨t, 0, none⟩), .pointer (some ⟨t, 0, none⟩), x58, x59, x60, x61, x62) _ ⟨hS, ⟨(fun _ => rfl), (fun _ => rfl), (fun h => f2 (upd_ne h (by decide))), (fun h => f3 (upd_ne h (by decide))), (fun h => f4 (upd_ne h (by decide))), (fun h => f5 (upd_ne h (by decide))), (fun h => f6 (upd_ne h (by decide)))⟩, j, hj, ((upd_no (by decide)).trans dd7), ⟨p0, p1⟩⟩
              · rintro d ⟨x56, x57, x58, x59, x60, x61, x62⟩ w' hI hd hdp KQ hK
                dsimp only at hI
                obtain ⟨hS, ⟨f0, f1, f2, f3, f4, f5, f6⟩, j, hj, dd7, ⟨p0, p1⟩⟩ := hI
                obtain rfl := f1 (hdp 1 (by decide +kernel))
                have HF : Hid _ := And.intro hS (And.intro (And.intro f0 (And.intro f1 (And.intro f2 (And.intro f3 (And.intro f4 (And.intro f5 f6)))))) (And.intro hj (And.intro dd7 (And.intro p0 p1))))
                clear hS f0 f1 f2 f3 f4 f5 f6 hj dd7 p0 p1 hdp hd
                refine Opn.mk ?_
                dsimp only
                go_simp
                obtain ⟨hS, ⟨f0, f1, f2, f3, f4, f5, f6⟩, hj, dd7, ⟨p0, p1⟩⟩ := HF.out
                exact hK.out (x56, .pointer (some ⟨t, 0, none⟩), .pointer (some ⟨t, 0, none⟩), x59, x60, x61, x62) _ ⟨hS, ⟨(fun h => f0 (upd_ne h (by decide))), (fun _ => rfl), (fun _ => rfl), (fun h => f3 (upd_ne h (by decide))), (fun h => f4 (upd_ne h (by decide))), (fun h => f5 (upd_ne h (by decide))), (fun h => f6 (upd_ne h (by decide)))⟩, j, hj, ((upd_no (by decide)).trans dd7), ⟨p0, p1⟩⟩
              · rintro d ⟨x56, x57, x58, x59, x60, x61, x62⟩ w' hI hd hdp KQ hK
                dsimp only at hI
                obtain ⟨hS, ⟨f0, f1, f2, f3, f4, f5, f6⟩, j, hj, dd7, ⟨p0, p1⟩⟩ := hI
                obtain rfl := f2 (hdp 2 (by decide +kernel))
                have cc := HQD.out.1 w' hS
                have HF : Hid _ := And.intro hS (And.intro (And.intro f0 (And.intro f1 (And.intro f2 (And.intro f3 (And.intro f4 (And.intro f5 f6)))))) (And.intro hj (And.intro dd7 (And.intro p0 p1))))
                clear hS f0 f1 f2 f3 f4 f5 f6 hj dd7 p0 p1 hdp hd
                refine Opn.mk ?_
                dsimp only
                go_simp
                obtain ⟨hS, ⟨f0, f1, f2, f3, f4, f5, f6⟩, hj, dd7, ⟨p0, p1⟩⟩ := HF.out
                exact hK.out (x56, x57, .pointer (some ⟨t, 0, none⟩), .map (some m), x60, x61, x62) _ ⟨hS, ⟨(fun h => f0 (upd_ne h (by decide))), (fun h => f1 (upd_ne h (by decide))), (fun _ => rfl), (fun _ => rfl), (fun h => f4 (upd_ne h (by decide))), (fun h => f5 (upd_ne h (by decide))), (fun h => f6 (upd_ne h (by decide)))⟩, j, hj, ((upd_no (by decide)).trans dd7), ⟨p0, p1⟩⟩
              · rintro d ⟨x56, x57, x58, x59, x60, x61, x62⟩ w' hI hd hdp KQ hK
                dsimp only at hI
                obtain ⟨hS, ⟨f0, f1, f2, f3, f4, f5, f6⟩, j, hj, dd7, ⟨p0, p1⟩⟩ := hI
                obtain ⟨cs0, cs1, cs2, cs3, cs4⟩ := HQD.out.2.1 w' hS
                have HF : Hid _ := And.intro hS (And.intro (And.intro f0 (And.intro f1 (And.intro f2 (And.intro f3 (And.intro f4 (And.intro f5 f6)))))) (And.intro hj (And.intro dd7 (And.intro p0 p1))))
                clear hS f0 f1 f2 f3 f4 f5 f6 hj dd7 p0 p1 hdp hd
                refine Opn.mk ?_
                dsimp only
                go_simp
                obtain ⟨hS, ⟨f0, f1, f2, f3, f4, f5, f6⟩, hj, dd7, ⟨p0, p1⟩⟩ := HF.out
                exact hK.out (x56, x57, x58, x59, .agg #[.int .i64 k1, .int .i64 k2, .int .i64 k3, .int .i64 gp, .int .i64 gc], x61, x62) _ ⟨hS, ⟨(fun h => f0 (upd_ne h (by decide))), (fun h => f1 (upd_ne h (by decide))), (fun h => f2 (upd_ne h (by decide))), (fun h => f3 (upd_ne h (by decide))), (fun _ => rfl), (fun h => f5 (upd_ne h (by decide))), (fun h => f6 (upd_ne h (by decide)))⟩, j, hj, ((upd_no (by decide)).trans dd7), ⟨p0, p1⟩⟩
              · rintro d ⟨x56, x57, x58, x59, x60, x61, x62⟩ w' hI hd hdp KQ hK
                dsimp only at hI
                obtain ⟨hS, ⟨f0, f1, f2, f3, f4, f5, f6⟩, j, hj, dd7, ⟨p0, p1⟩⟩ := hI
                obtain rfl := f4 (hdp 4 (by decide +kernel))
                have kk := keyOf_any w' k1 k2 k3 gp gc
                unfold kv at kk
                simp only at kk
                have HF : Hid _ := And.intro hS (And.intro (And.intro f0 (And.intro f1 (And.intro f2 (And.intro f3 (And.intro f4 (And.intro f5 f6)))))) (And.intro hj (And.intro dd7 (And.intro p0 p1))))
                clear hS f0 f1 f2 f3 f4 f5 f6 hj dd7 p0 p1 hdp hd
                refine Opn.mk ?_
                dsimp only
                go_simp
                go_wp2_with (first | (go_at_call 30; with_reducible refine kk.mono ?_; rintro e5 w5 ⟨rfl, g5⟩))
                obtain ⟨hS, ⟨f0, f1, f2, f3, f4, f5, f6⟩, hj, dd7, ⟨p0, p1⟩⟩ := HF.out
                refine hK.out (x56, x57, x58, x59, .agg #[.int .i64 k1, .int .i64 k2, .int .i64 k3, .int .i64 gp, .int .i64 gc], .agg #[.int .i64 k1, .int .i64 k2, .int .i64 k3], x62) _ ⟨?sg, ⟨(fun h => f0 (upd_ne h (by decide))), (fun h => f1 (upd_ne h (by decide))), (fun h => f2 (upd_ne h (by decide))), (fun h => f3 (upd_ne h (by decide))), (fun _ => rfl), (fun _ => rfl), (fun h => f6 (upd_ne h (by decide)))⟩, j, hj, ((upd_no (by decide)).trans dd7), ⟨(fun hj0 => ?u0), (fun hj0 => ?u1)⟩⟩
                case sg => exact hS.trans (Fr.of_below g5.below) fun _ _ h => h
                case u0 =>
                  have s := p0 hj0
                  exact ⟨grown_trans s.1 (grown_of_below g5.below _), own_below s.2 g5.below⟩
                case u1 =>
                  have s := p1 hj0
                  obtain ⟨F', q⟩ := s
                  exact ⟨F', q.grow g5.below⟩
              · rintro d ⟨x56, x57, x58, x59, x60, x61, x62⟩ w' hI hd hdp KQ hK
                dsimp only at hI
                obtain ⟨hS, ⟨f0, f1, f2, f3, f4, f5, f6⟩, j, hj, dd7, ⟨p0, p1⟩⟩ := hI
                obtain ⟨ct0, ct1⟩ := HQD.out.2.2 w' hS
                have HF : Hid _ := And.intro hS (And.intro (And.intro f0 (And.intro f1 (And.intro f2 (And.intro f3 (And.intro f4 (And.intro f5 f6)))))) (And.intro hj (And.intro dd7 (And.intro p0 p1))))
                clear hS f0 f1 f2 f3 f4 f5 f6 hj dd7 p0 p1 hdp hd
                refine Opn.mk ?_
                dsimp only
                go_simp
                obtain ⟨hS, ⟨f0, f1, f2, f3, f4, f5, f6⟩, hj, dd7, ⟨p0, p1⟩⟩ := HF.out
                exact hK.out (x56, x57, x58, x59, x60, x61, .agg #[.int .i64 c, .slice va dn vc]) _ ⟨hS, ⟨(fun h => f0 (upd_ne h (by decide))), (fun h => f1 (upd_ne h (by decide))), (fun h => f2 (upd_ne h (by decide))), (fun h => f3 (upd_ne h (by decide))), (fun h => f4 (upd_ne h (by decide))), (fun h => f5 (upd_ne h (by decide))), (fun _ => rfl)⟩, j, hj, ((upd_no (by decide)).trans dd7), ⟨p0, p1⟩⟩
              · rintro d ⟨x56, x57, x58, x59, x60, x61, x62⟩ w' hI hd hdp KQ hK
                dsimp only at hI
                obtain ⟨hS, ⟨f0, f1, f2, f3, f4, f5, f6⟩, j, hj, dd7, ⟨p0, p1⟩⟩ := hI
                obtain rfl := f3 (hdp 3 (by decide +kernel))
                obtain rfl := f5 (hdp 5 (by decide +kernel))
                obtain rfl := f6 (hdp 6 (by decide +kernel))
                obtain rfl := ph_zero dd7 hd
                have s := p0 rfl
                clear p0 p1 hj
                obtain ⟨sg0, sg2⟩ := s
                obtain ⟨w6, hrun, r1, r2⟩ := World.ownsMap.update (HMW.out.kept sg0 HNM.out) law Try.underlying61 (by have := HFEW.out; unfold maxLen; exact Nat.lt_of_le_of_lt this (by decide)) (key_mk (k1, k2, k3) HB3.out) (sel_mk c (flat_own sg2))
                unfold kv at hrun
                simp only at hrun
                have HG : Hid _ := And.intro hS (And.intro sg0 (And.intro sg2 (And.intro r1 r2)))
                clear hS sg0 sg2 r1 r2
                have HF : Hid _ := And.intro (And.intro f0 (And.intro f1 (And.intro f2 (And.intro f3 (And.intro f4 (And.intro f5 f6)))))) dd7
                clear f0 f1 f2 f3 f4 f5 f6 dd7 hdp hd
                refine Opn.mk ?_
                dsimp only
                go_simp
                obtain ⟨hS, sg0, sg2, r1, r2⟩ := HG.out
                obtain ⟨⟨f0, f1, f2, f3, f4, f5, f6⟩, dd7⟩ := HF.out
                refine hK.out (x56, x57, x58, .map (some m), x60, .agg #[.int .i64 k1, .int .i64 k2, .int .i64 k3], .agg #[.int .i64 c, .slice va dn vc]) _ ⟨?sg, ⟨(fun h => f0 (upd_ne h (by decide))), (fun h => f1 (upd_ne h (by decide))), (fun h => f2 (upd_ne h (by decide))), (fun _ => rfl), (fun h => f4 (upd_ne h (by decide))), (fun _ => rfl), (fun _ => rfl)⟩, 1, by decide, (by simp [upd]), ⟨(fun h => absurd h (by decide)), (fun _ => ?new)⟩⟩
                case sg => exact hS.trans (Fr.of_grown (F := fun i => i = m) r2 fun j hj => .inl (Option.some.inj hj).symm) fun _ _ h => h
                case new =>
                  refine ⟨fun i => F i ∨ (Value.slice va dn vc).ownBlock = some i, ?_⟩
                  rw [if_neg (by rw [← HDN.out]; exact HD0.out)]
                  exact tl_set (e := ⟨(k1, k2, k3), c, (Value.slice pa np pc), ps⟩) HZW.out HEN.out sg0 sg2 HVB.out HMW.out HMD.out r1 r2
            case he2002 =>
              rintro d ⟨x56, x57, x58, x59, x60, x61, x62⟩ w' hall hI
              dsimp only at hI
              obtain ⟨hS, ⟨f0, f1, f2, f3, f4, f5, f6⟩, j, hj, dd7, ⟨p0, p1⟩⟩ := hI
              obtain rfl := ph_end (k := 0) hj dd7 (hall 7 (by decide))
              have s := p1 rfl

              clear hall hj f0 f1 f2 f3 f4 f5 f6 dd7 p0 p1
              obtain ⟨F', q⟩ := s
              have HT : Hid _ := q
              clear q hS
              try dsimp only
              go_wp2_with fail
              go_ret
              exact HEND.out F' _ HT.out
end Go.Proofs.Ytgbmigfamefenaa
