/- The walk of AggCounts. -/
import Derived.Test.YtkoihniggoelnaaMayw
import Derived.Test.YtkoihniggoelnaaSam
import Derived.Test.YtkoihniggoelnaaROf
namespace Go.Proofs.Ytkoihniggoelnaa
open Go.RowKit Go.Sort

theorem rdsk_off {k : Nat} {w : World} {v : Value} {n : Nat} {xs : List Value} {base : Nat} (h : RdsK k w v n xs) (hn : New base v) {g o : Nat} (hg : g < base) (u : Value) : RdsK k (w.setCell ⟨g, o, none⟩ u) v n xs := by
  obtain ⟨ao, cap, rfl, h0, h1, h2, h3, h4⟩ := h
  refine ⟨ao, cap, rfl, h0, h1, h2, h3, fun ad ha j x hj => ?_⟩
  have hc := h4 ad ha j x hj
  subst ha
  have hk := hn ad _ _ rfl
  have hab : (ad.add j).block = ad.block := by cases ad; simp [Addr.add]; try (split <;> rfl)
  rw [World.cell?_setCell_other _ _ _ _ (fun e => by rw [← e] at hab; simp at hab; omega)]
  exact hc
set_option maxHeartbeats 8000000 in
theorem counts_walk (w : World) (k c : Int) (v : Value) (raw : List En) (h : RdsM w v raw) (hk : In64 k) (hc : In64 c) :
    Calls Try.prog 4 #[.agg #[.int .i64 k, .int .i64 c], v] w fun e w' => e = .returned (.bool true) ∧ Below w.heap.size w w' := by
  obtain ⟨ao, n, cap, rfl⟩ := h.sl
  obtain ⟨W, hW⟩ : ∃ W, W = w.alloc (.cells #[.int .i64 k, .int .i64 c] 26) := ⟨_, rfl⟩
  have gW : Below w.heap.size w W := by rw [hW]; exact (Grows.alloc _ _).below
  have ha0 : W.cell? ⟨w.heap.size, 0, none⟩ = some (.int .i64 k) ∧ W.cell? ⟨w.heap.size, 1, none⟩ = some (.int .i64 c) ∧ ∀ z, W.frozen? ⟨w.heap.size, z, none⟩ = false := by rw [hW]; exact ⟨al_new _ _ _ rfl rfl, al_new _ _ _ rfl rfl, fun z => al_frz _ _ _ rfl⟩
  have kA := awake_any W
  have mixed : Try.prog.follows .mixedOrders = true := by kernel_rfl
  have hlW : w.heap.size < W.heap.size := World.block_lt_of_cell? _ _ ha0.1
  rw [hW] at kA
  have HW : Hid _ := hW
  have HG : Hid _ := And.intro gW (And.intro ha0 (And.intro (h.below gW) hlW))
  clear h hW gW ha0 hlW
  go_enter Try.func4, Try.ntmps4
  go_wp2_with fail
  refine kA.mono ?_
  rintro e U ⟨rfl, bU⟩
  rw [← HW.out] at bU
  obtain ⟨gW, ha0, hR, hlW⟩ := HG.out
  have c0 := cell_up bU ha0.1
  have c1 := cell_up bU ha0.2.1
  have cf := fun z => (bU.frozen (p := ⟨w.heap.size, z, none⟩) hlW).trans (ha0.2.2 z)
  have kR := right_new U k c _ raw (hR.below bU) hk hc
  have hlU : w.heap.size < U.heap.size := Nat.lt_of_lt_of_le hlW bU.size
  have HU : Hid _ := And.intro (gW.trans (bU.mono gW.size)) (And.intro hlU (And.intro c0 (And.intro c1 cf)))
  clear kA bU gW ha0 hR HG HW cf hlW hlU
  go_wp2_with fail
  refine kR.mono ?_
  rintro e X ⟨k', c', v', l, rfl, hkc, rM, fe, hl, bX, hnw⟩
  obtain ⟨a1, n1, cp1, rfl⟩ := rM.sl
  obtain ⟨b0, hlU, u0, u1, uf⟩ := HU.out
  obtain ⟨cc, rfl⟩ : ∃ cc : Nat, c' = (cc : Int) := ⟨c'.toNat, by omega⟩
  obtain ⟨X1, hX1⟩ : ∃ X1, X1 = X.alloc (.cells #[.int .i64 2, .int .i64 2] 23) := ⟨_, rfl⟩
  have gX1 : Below X.heap.size X X1 := by rw [hX1]; exact (Grows.alloc _ _).below
  have bUX := bX.trans (gX1.mono bX.size)
  have d0 := cell_up bUX u0
  have d1 := cell_up bUX u1
  have df := fun z => (bUX.frozen (p := ⟨w.heap.size, z, none⟩) hlU).trans (uf z)
  obtain ⟨Y, hY⟩ : ∃ Y, Y = (X1.setCell ⟨w.heap.size, 0, none⟩ (.int .i64 k')).setCell ⟨w.heap.size, 1, none⟩ (.int .i64 (cc : Int)) := ⟨_, rfl⟩
  have hb : Y.cell? ⟨w.heap.size, 0, none⟩ = some (.int .i64 k') ∧ Y.cell? ⟨w.heap.size, 1, none⟩ = some (.int .i64 (cc : Int)) := by
    rw [hY]
    exact ⟨by rw [World.cell?_setCell_other _ _ _ _ (by simp)]; exact World.cell?_setCell_same _ _ _ d0, World.cell?_setCell_same _ _ _ (by rw [World.cell?_setCell_other _ _ _ _ (by simp)]; exact d1)⟩
  have feY : ∀ e ∈ l, FE Y U.heap.size e := fun e he => by rw [hY]; exact (((fe e he).up gX1).off hlU _).off hlU _
  have rY : RdsM Y (.slice a1 n1 cp1) l := ⟨by rw [hY]; exact rdsk_off (rdsk_off (rM.below gX1).r hnw hlU _) hnw hlU _, fun e he => (feY e he).fok⟩
  have bY : Below w.heap.size w Y := by
    rw [hY]
    exact ((b0.trans (bUX.mono b0.size)).setCell (p := ⟨w.heap.size, 0, none⟩) (Nat.le_refl _) _).setCell (p := ⟨w.heap.size, 1, none⟩) (Nat.le_refl _) _
  have htt := fe_tot feY hl
  have hok := fe_aok feY
  have kO := of_any Y k' cc _ l rY hok (by omega) (by omega)
  have hJ : l.foldl (rstep k' (cc : Int)) U0 = ofP k' cc l := rfold_same k' cc hok (by omega)
  have HS : Hid (RdsM Y (.slice a1 n1 cp1) l ∧ (∀ e ∈ l, e.f.ds.length = 2 ∧ e.f.ms.length = 2) ∧ AOk l ∧ tot l < 18446744073709551616 ∧ l.length ≤ 200 ∧ (1 ≤ k' ∧ k' ≤ 5) ∧ cc ≤ 1 ∧ l.foldl (rstep k' (cc : Int)) U0 = ofP k' cc l) := ⟨rY, fun e he => ⟨(feY e he).ld, (feY e he).lm⟩, hok, by omega, by omega, ⟨hkc.1, hkc.2.1⟩, by omega, hJ⟩
  have HY : Hid _ := And.intro hY (And.intro bY hb)
  have HX1 : Hid _ := hX1
  unfold Gives at kO
  rw [hX1] at d0 d1 df
  clear kR c0 c1 bX gX1 hb htt hok rM fe hl hY hkc rY bY feY hJ hX1 u0 u1 uf hlU b0 bUX hnw HU
  go_wp2_with fail
  rw [← HX1.out, show (X1.setCell ⟨w.heap.size, 0, none⟩ (.int .i64 k')).setCell ⟨w.heap.size, 1, none⟩ (.int .i64 (cc : Int)) = Y from HY.out.1.symm]
  refine kO.mono ?_
  rintro e Z ⟨p, rfl, okp, -, hp0, bZ⟩
  obtain ⟨rY, hl2, hok, ht, hl, hk5, hcc, hJ⟩ := HS.out
  obtain ⟨hY, bY, hb⟩ := HY.out
  obtain ⟨pn, pv, ptv, pts⟩ := p
  obtain ⟨pa, pl, pc, hv⟩ := okp.rt.sl
  simp only at hv
  subst hv
  obtain ⟨V, hV⟩ : ∃ V, V = Z.alloc (.cells #[.int .u64 pn, .int .i64 pv, .slice pa pl pc] 30) := ⟨_, rfl⟩
  have gV : Below Z.heap.size Z V := by rw [hV]; exact (Grows.alloc _ _).below
  have bxp : Box3 V Z.heap.size (.int .u64 pn) (.int .i64 pv) (.slice pa pl pc) := by rw [hV]; exact Box3.new _ _ _ _ _ _ rfl
  have bYV : Below Y.heap.size Y V := bZ.trans (gV.mono bZ.size)
  have kRf := refof_any V k' cc _ l (rY.below bYV) hcc hk5 hl2 hok ht hl
  rw [hJ, ← hp0] at kRf
  have e0 := cell_up bYV hb.1
  have e1 := cell_up bYV hb.2
  have HV : Hid _ := And.intro hV (And.intro (bY.trans (bYV.mono bY.size)) (And.intro bxp (And.intro (okp.up gV) (And.intro e0 e1))))
  rw [hV] at kRf e0 e1
  unfold Gives at kRf
  clear kO rY hl2 hok ht hl hk5 hcc hJ hY bY hb okp hp0 bZ hV gV bxp bYV HS HY HX1 d0 d1 df
  go_wp2_with fail
  refine kRf.mono ?_
  rintro e Z2 ⟨q, rfl, okq, -, hq0, bZ2⟩
  obtain ⟨hV, bV, bxp, okp, e0, e1⟩ := HV.out
  rw [← hV] at bZ2
  obtain ⟨qn, qv, qtv, qts⟩ := q
  obtain ⟨qa, ql, qc, hv⟩ := okq.rt.sl
  simp only at hv
  subst hv
  obtain ⟨V2, hV2⟩ : ∃ V2, V2 = Z2.alloc (.cells #[.int .u64 qn, .int .i64 qv, .slice qa ql qc] 30) := ⟨_, rfl⟩
  have gV : Below Z2.heap.size Z2 V2 := by rw [hV2]; exact (Grows.alloc _ _).below
  have bxq : Box3 V2 Z2.heap.size (.int .u64 qn) (.int .i64 qv) (.slice qa ql qc) := by rw [hV2]; exact Box3.new _ _ _ _ _ _ rfl
  have b2 : Below V.heap.size V V2 := bZ2.trans (gV.mono bZ2.size)
  have bx1 := bxp.up b2
  have okp2 := okp.up b2
  have okq2 := okq.up gV
  have z0 := fun nq os => cell_gr bx1.c0 nq os
  have z1 := fun nq os => cell_gr bx1.c1 nq os
  have z2 := fun nq os => cell_gr bx1.c2 nq os
  have z3 := fun nq os => cell_gr bxq.c0 nq os
  have z4 := fun nq os => cell_gr bxq.c1 nq os
  have z5 := fun nq os => cell_gr bxq.c2 nq os
  have z6 := fun nq os => cell_gr (cell_up b2 e0) nq os
  have z7 := fun nq os => cell_gr (cell_up b2 e1) nq os
  have hvv : valP k' (Pt.mk qn qv (.slice qa ql qc) qts).p0 = valP k' (Pt.mk pn pv (.slice pa pl pc) pts).p0 := by rw [hq0]
  obtain ⟨vv, hvv2⟩ : ∃ vv, vv = valP k' (Pt.mk pn pv (.slice pa pl pc) pts).p0 := ⟨_, rfl⟩
  have kSm : ∀ nq os, Calls Try.prog 18 #[.agg #[.int .u64 pn, .int .i64 pv, .slice pa pl pc], .agg #[.int .u64 qn, .int .i64 qv, .slice qa ql qc]] (grow (V2.drewN nq) os) fun e w' => e = .returned (.bool true) ∧ ∃ q os', w' = grow ((grow (V2.drewN nq) os).drewN q) os' := fun nq os => refsame_any (grow (V2.drewN nq) os) ⟨pn, pv, .slice pa pl pc, pts⟩ ⟨qn, qv, .slice qa ql qc, qts⟩ (okp2.up (Grows.below ⟨nq, os, rfl⟩)) (okq2.up (Grows.below ⟨nq, os, rfl⟩)) hq0.symm
  have kVl : ∀ nq os, Calls Try.prog 19 #[.agg #[.int .i64 k', .int .i64 (cc : Int)], .agg #[.int .u64 pn, .int .i64 pv, .slice pa pl pc]] (grow (V2.drewN nq) os) fun e w' => e = .returned (.int .i64 vv) ∧ ∃ q os', w' = grow ((grow (V2.drewN nq) os).drewN q) os' := fun nq os => by
    rw [hvv2]
    exact value_any (grow (V2.drewN nq) os) k' cc ⟨pn, pv, .slice pa pl pc, pts⟩ (okp2.up (Grows.below ⟨nq, os, rfl⟩))
  have kVr : ∀ nq os, Calls Try.prog 20 #[.agg #[.int .i64 k', .int .i64 (cc : Int)], .agg #[.int .u64 qn, .int .i64 qv, .slice qa ql qc]] (grow (V2.drewN nq) os) fun e w' => e = .returned (.int .i64 vv) ∧ ∃ q os', w' = grow ((grow (V2.drewN nq) os).drewN q) os' := fun nq os => by
    rw [hvv2, ← hvv]
    exact refvalue_any (grow (V2.drewN nq) os) k' cc ⟨qn, qv, .slice qa ql qc, qts⟩ (okq2.up (Grows.below ⟨nq, os, rfl⟩))
  have HV2 : Hid _ := hV2
  have HB : Hid (Below w.heap.size w V2) := bV.trans (b2.mono bV.size)
  clear kRf hV bV bxp okp e0 e1 bZ2 okq hq0 hV2 gV bxq b2 bx1 okp2 okq2 hvv hvv2 HV
  go_wp2_with fail
  rw [← HV2.out]
  refine wp_region_quiet_grown (by assumption) (by kernel_rfl) ?_
  repeat (go_big_quiet_step (first | (go_at_call 18; with_reducible refine Calls.grown_of (kSm _ _)) | (go_at_call 19; with_reducible refine Calls.grown_of (kVl _ _)) | (go_at_call 20; with_reducible refine Calls.grown_of (kVr _ _))))
  refine wpQuiet_nil ?_
  intro T hw'
  obtain ⟨⟨nq, osq⟩, hw''⟩ := hw'
  have HBY : Hid (Below w.heap.size w T) := HB.out.trans ((Grows.below ⟨nq, osq, hw''⟩).mono HB.out.size)
  clear hw'' kSm kVl kVr
  go_wp2_with fail
  go_ret
  exact ⟨by first | rfl | simp, HBY.out⟩
end Go.Proofs.Ytkoihniggoelnaa
