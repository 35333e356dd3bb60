/- Such a message is copied. -/
import Derived.Test.YtnkllgpibmofiaaOwP
namespace Go.Proofs.Ytnkllgpibmofiaa
open Go.RowKit Go.Maps Go.Sort
set_option linter.unusedVariables false

abbrev G2 (n i : Nat) : Prop := i = n ∨ i = n + 1
theorem fr_setCells (n : Nat) : ∀ (cs : List Value) (o : Nat) (w : World), Fr (G2 n) w (w.setCells n o cs)
  | [], _, w => Fr.refl _ _
  | c :: cs, o, w => (Fr.of_grown (F := G2 n) grown_setCell fun j hj => .inl (.inl (by injection hj with hj; exact hj.symm))).trans (fr_setCells n cs (o + 1) _) fun _ _ h => h
theorem fr_setCell (n : Nat) (w : World) (o : Nat) (u : Value) : Fr (G2 n) w (w.setCell ⟨n, o, none⟩ u) := Fr.of_grown (F := G2 n) grown_setCell fun j hj => .inl (.inl (by injection hj with hj; exact hj.symm))
theorem fr_setRow (n : Nat) (w : World) (M : Array Value) : Fr (G2 n) w (w.setRow (n + 1) M) := ⟨rfl, rfl, rfl, by simp, fun i _ hn => setRow_other w (n + 1) i M fun e => hn (.inr e)⟩
theorem Fr.t {n : Nat} {a b c : World} (h : Fr (G2 n) a b) (k : Fr (G2 n) b c) : Fr (G2 n) a c := h.trans k fun _ _ h => h
theorem own_fr {w w' : World} {n b1 e k m : Nat} {v : Value} {xs : List Value} (h : w.ownsRow b1 e k v m xs) (hb : n + 2 ≤ b1) (hk : Fr (G2 n) w w') : w'.ownsRow n e k v m xs := by
  refine ⟨h.1, ?_⟩
  rcases h.2 with h2 | ⟨g', cap, cur, e1, e2, e3, e4⟩
  · exact .inl h2
  · exact .inr ⟨g', cap, cur, e1, by omega, by rw [hk.block g' (Array.getElem?_eq_some_iff.1 e3).1 (by rintro (h | h) <;> omega)]; exact e3, e4⟩
set_option maxRecDepth 20000 in
set_option maxHeartbeats 4000000 in
theorem copied_own (w : World) (M : Array Value) (a : Option Addr) (m c : Nat) (b cap : Nat) (u : Value) (mi : Nat) (ag : Option Addr) (mg cg : Nat) (xs ys zs : List Value) (h : Po M (.slice a m c) (.slice (some ⟨b, 0, none⟩) 1 cap) (.slice ag mg cg))
    (hd : RdsK 1 w (.slice a m c) m xs) (hd1 : ∀ u ∈ xs, u.oneCell' = true) (hm : m ≤ 1000000)
    (hc : w.cell? ⟨b, 0, none⟩ = some u) (hcap : 1 ≤ cap) (hu : RdsK 1 w u mi ys) (hu1 : ∀ u ∈ ys, u.oneCell' = true) (hmi : mi ≤ 1000000)
    (hg : RdsK 5 w (.slice ag mg cg) mg zs) (hg1 : ∀ u ∈ zs, u.oneCell' = true) (hmg : mg ≤ 1000000) :
    Calls Try.prog 35 #[.agg M] w fun e w' => ∃ M' d' s' i' g', e = .returned (.agg M') ∧ Po M' d' s' g' ∧ M'[3]? = M[3]? ∧ w'.ownsRow w.heap.size 9 1 d' m xs ∧ w'.ownsRow w.heap.size 86 1 s' 1 [i'] ∧ w'.ownsRow w.heap.size 3 1 i' mi ys ∧ w'.ownsRow w.heap.size 46 5 g' mg zs ∧ Below w.heap.size w w' := by
  obtain ⟨t0, hft⟩ := h.ft
  obtain ⟨f, t, k, d, lo, hi, gg, gr, ro, hqr⟩ := h.qr
  have kF := fun W (hb : Below w.heap.size w W) => fact_own t0 a m c xs W (hd.below hb) hd1 hm
  have kQ := fun W (hb : Below w.heap.size w W) => query_own f t k d lo hi gg gr ro W b cap u mi ys _ rfl (by rw [hb.cell (World.block_lt_of_cell? _ _ hc)]; exact hc) hcap (hu.below hb) hu1 hmi
  have kG := fun W (hb : Below w.heap.size w W) => listSeg_any W (.slice ag mg cg) mg zs (hg.below hb) hg1 hmg
  have HSF : Hid (sub M 9 (fcd t0 (.slice a m c))) := hft
  have HIF : Hid ((Try.prog.info? 35).map (·.size) = some (fcd t0 (.slice a m c)).length) := Try.info_fct
  have HSQ : Hid (sub M 12 (qcsS f t k d lo hi gg gr ro (.slice (some ⟨b, 0, none⟩) 1 cap))) := hqr
  have HIQ : Hid ((Try.prog.info? 44).map (·.size) = some (qcsS f t k d lo hi gg gr ro (.slice (some ⟨b, 0, none⟩) 1 cap)).length) := Try.info_qry
  have HH := hide h
  have HKQ := hide kQ
  have HKG := hide kG
  clear hft hqr h hd hd1 hc hu hu1 hg hg1 kQ kG
  go_enter Try.func35, Try.ntmps35
  go_wp2_with (refine wpList_load_mid rfl 35 (.tmp 3) rfl w.heap.size 9 rfl (fcd t0 (.slice a m c)) _ (rangeM (BxA.up (BxA.new _ _ _) ((Below.refl _ _).alloc (Nat.le_refl _) _)) 9 (fcd t0 (.slice a m c)) HSF.out) Try.underlying35 rfl HIF.out ?_)
  go_at_call 47
  refine (kF _ (((Below.refl _ _).alloc (Nat.le_refl _) _).alloc (by simp) _)).mono ?_
  rintro e w1 ⟨d', he1, hod, hb1⟩
  have hd1 : d'.oneCell' = true := by obtain ⟨a1, c1, rfl⟩ := own_sl hod; rfl
  obtain ⟨FF, hFF⟩ : ∃ FF : Array Value, FF = (fcd t0 d').toArray := ⟨_, rfl⟩
  have he1 : e = .returned (.agg FF) := by rw [hFF]; exact he1
  subst he1
  have hx1 : BxA w1 w.heap.size 54 M := BxA.up (BxA.up (BxA.new _ _ _) ((Below.refl _ _).alloc (Nat.le_refl _) _)) hb1
  have hx2 := BxA.up (BxA.new (w.alloc (.cells M 54)) _ _) hb1
  rw [show (w.alloc (.cells M 54)).heap.size = w.heap.size + 1 by simp] at hx2
  obtain ⟨ZZ, hzz, hzs⟩ : ∃ ZZ, BxA w1 (w.heap.size + 1) 54 ZZ ∧ ZZ.size = 41 := ⟨_, hx2, rfl⟩
  have hfr1 : Fr (G2 w.heap.size) w w1 := (Fr.of_below (((Below.refl _ _).alloc (Nat.le_refl _) _).alloc (by simp) _)).t (Fr.of_below hb1)
  have HOD : Hid (w1.ownsRow (w.heap.size + 2) 9 1 d' m xs) := by
    apply hide
    rw [show w.heap.size + 2 = ((w.alloc (.cells M 54)).alloc (.cells (List.toArray ((Value.int .i64 0) :: (Value.int .i64 0) :: (Value.int .i64 0) :: (Value.int .u64 0) :: (Value.int .u64 0) :: (Value.int .u64 0) :: (Value.int .i64 0) :: (Value.int .u64 0) :: (Value.int .i64 0) :: (Value.int .i64 0) :: (Value.slice none 0 0) :: (Value.slice none 0 0) :: (Value.int .i64 0) :: (Value.int .i64 0) :: (Value.int .i64 0) :: (Value.int .i64 0) :: (Value.slice none 0 0) :: (Value.int .i64 0) :: (Value.int .i64 0) :: (Value.slice none 0 0) :: (Value.int .i64 0) :: (Value.slice none 0 0) :: (Value.slice none 0 0) :: (Value.int .i64 0) :: (Value.int .i64 0) :: (Value.int .i64 0) :: (Value.int .i64 0) :: (Value.int .i64 0) :: (Value.int .i64 0) :: (Value.int .i64 0) :: (Value.int .i64 0) :: (Value.int .i64 0) :: (Value.bool false) :: (Value.int .i64 0) :: (Value.int .i64 0) :: (Value.int .i64 0) :: (Value.int .i64 0) :: (Value.int .i64 0) :: (Value.int .i64 0) :: (Value.slice none 0 0) :: (Value.slice none 0 0) :: [])) 54)).heap.size by simp]
    exact hod
  have HD1 := hide hd1
  have HFL : Hid (FF.toList = fcd t0 d') := by apply hide; rw [hFF]
  have HFI : Hid ((Try.prog.info? 35).map (·.size) = some FF.size) := by apply hide; rw [hFF]; exact Try.info_fct
  have HFZ : Hid (FF.size = 3) := by apply hide; rw [hFF]; rfl
  have HFO : Hid (FF.all (·.oneCell') = true) := by apply hide; rw [hFF]; exact all_oneCell_toArray (by intro v hv; simp only [fcd, List.mem_cons, List.not_mem_nil, or_false] at hv; rcases hv with rfl | rfl | rfl <;> first | rfl | exact hd1)
  have HT : Hid (w1.there w.heap.size 9 FF.size) := hide (thereM hx1 9 _ (by rw [HH.out.sz, HFZ.out]; omega))
  have HX1 := hide hx1
  have HX2 := hide hzz
  have HZS := hide hzs
  have HFR1 := hide hfr1
  clear hd1 hFF hx1 hx2 hzz hzs hfr1 hod hb1 kF
  obtain ⟨QL, hQL⟩ : ∃ QL, QL = qcsS f t k d lo hi gg gr ro (.slice (some ⟨b, 0, none⟩) 1 cap) := ⟨_, rfl⟩
  have HQL := hide hQL
  clear hQL
  go_wp2_with (first
    | (refine wpList_store_mid rfl 35 (.tmp 6) (.tmp 5) rfl w.heap.size 9 FF rfl rfl HT.out HFI.out HFO.out ?_; have hbx := BxA.pat FF.toList 9 HX1.out; have hby := BxA.setCells' (setCells_other w.heap.size FF.toList 9 w1) HX2.out (by simp); have hfr2 := HFR1.out.t (fr_setCells w.heap.size FF.toList 9 w1); have hfs := fr_setCells w.heap.size FF.toList 9 w1; generalize hw2 : w1.setCells w.heap.size 9 FF.toList = w2 at *; have HBX := hide hbx; have HBY := hide hby; have HFR2 := hide hfr2; have HFS := hide hfs; have HR2 : Hid (w2.rangeAt w.heap.size 12 QL) := hide (rangeM hbx 12 _ (sub_other (HQL.out ▸ HSQ.out) fun i h1 h2 => pat_other _ _ _ _ (.inr (by rw [Array.length_toList, HFZ.out]; omega)))); clear hbx hby hfr2 hfs hw2)
    | (refine wpList_load_mid rfl 44 (.tmp 7) rfl w.heap.size 12 rfl QL _ HR2.out Try.underlying44 rfl (by rw [HQL.out]; exact HIQ.out) ?_))
  go_at_call 48
  rw [HQL.out]
  refine (HKQ.out _ (HFR2.out.below (Nat.le_refl _) (by rintro i (h | h) <;> omega))).mono ?_
  rintro e w3 ⟨s', i', he3, ho3, ho4, hb3⟩
  have hs1 : s'.oneCell' = true := by obtain ⟨a1, c1, rfl⟩ := own_sl ho3; rfl
  obtain ⟨QQ, hQQ⟩ : ∃ QQ : Array Value, QQ = (qcsS f t k d lo hi gg gr ro s').toArray := ⟨_, rfl⟩
  have he3 : e = .returned (.agg QQ) := by rw [hQQ]; exact he3
  subst he3
  obtain ⟨M1, hM1⟩ : ∃ M1, M1 = pat M 9 FF.toList := ⟨_, rfl⟩
  have hx1 : BxA w3 w.heap.size 54 M1 := by rw [hM1]; exact BxA.up HBX.out hb3
  have hx2 : BxA w3 (w.heap.size + 1) 54 ZZ := BxA.up HBY.out hb3
  have hfr3 : Fr (G2 w.heap.size) w w3 := HFR2.out.t (Fr.of_below hb3)
  have hod3 : Fr (G2 w.heap.size) w1 w3 := HFS.out.t (Fr.of_below hb3)
  have hw22 : w.heap.size + 2 ≤ w2.heap.size := HBY.out.lt
  have HD3 := hide hod3
  have HS1 := hide hs1
  have HW22 := hide hw22
  have HO3 := hide ho3
  have HO4 := hide ho4
  have HQ2 : Hid (QQ.toList = qcsS f t k d lo hi gg gr ro s') := by apply hide; rw [hQQ]
  have HQI : Hid ((Try.prog.info? 44).map (·.size) = some QQ.size) := by apply hide; rw [hQQ]; exact Try.info_qry
  have HQZ : Hid (QQ.size = 13) := by apply hide; rw [hQQ]; rfl
  have HQO : Hid (QQ.all (·.oneCell') = true) := by apply hide; rw [hQQ]; exact all_oneCell_toArray (by intro v hv; simp only [qcsS, List.mem_cons, List.not_mem_nil, or_false] at hv; rcases hv with rfl | rfl | rfl | rfl | rfl | rfl | rfl | rfl | rfl | rfl | rfl | rfl | rfl <;> first | rfl | exact hs1)
  have hm1 : M1.size = 41 := by rw [hM1, pat_size, HH.out.sz]
  have HT3 : Hid (w3.there w.heap.size 12 QQ.size) := hide (thereM hx1 12 _ (by rw [hm1, HQZ.out]; omega))
  have HM1 := hide hM1
  have HY1 := hide hx1
  have HY2 := hide hx2
  have HFR3 := hide hfr3
  have HSG := hide HH.out.sg
  have HGP := hide HH.out.gp
  have HM39 : Hid (∀ i, 38 < i → (pat M1 12 QQ.toList)[i]? = M[i]?) := by
    apply hide
    intro i hi
    rw [pat_other _ _ _ _ (.inr (by rw [Array.length_toList, HQZ.out]; omega)), HM1.out, pat_other _ _ _ _ (.inr (by rw [Array.length_toList, HFZ.out]; omega))]
  clear hs1 hQQ hM1 hx1 hx2 hfr3 hod3 hw22 ho3 ho4 hm1 hb3
  go_wp2_with (refine wpList_store_mid rfl 44 (.tmp 10) (.tmp 9) rfl w.heap.size 12 QQ rfl rfl HT3.out HQI.out HQO.out ?_; have hbx := BxA.pat QQ.toList 12 HY1.out; have hby := BxA.setCells' (setCells_other w.heap.size QQ.toList 12 w3) HY2.out (by simp); have hfs := fr_setCells w.heap.size QQ.toList 12 w3; generalize hw4 : w3.setCells w.heap.size 12 QQ.toList = w4 at *; have HZX := hide hbx; have HZY := hide hby; have HFS4 := hide hfs; have d9 : w4.cell? ⟨w.heap.size, 39, none⟩ = some (.slice ag mg cg) := hbx.cell 39 _ ((HM39.out 39 (by omega)).trans HSG.out); clear hbx hby hfs hw4)
  go_at_call 49
  refine (HKG.out _ ((HFR3.out.t HFS4.out).below (Nat.le_refl _) (by rintro i (h | h) <;> omega))).mono ?_
  rintro e w5 ⟨g', he5, hn5⟩
  subst he5
  have hg1 : g'.oneCell' = true := by obtain ⟨a1, c1, rfl⟩ := own_sl hn5.1; rfl
  obtain ⟨ag', cg', rfl⟩ := own_sl hn5.1
  obtain ⟨M2, hM2⟩ : ∃ M2, M2 = pat M1 12 QQ.toList := ⟨_, rfl⟩
  obtain ⟨M3, hM3⟩ : ∃ M3, M3 = M2.setIfInBounds 39 (.slice ag' mg cg') := ⟨_, rfl⟩
  obtain ⟨M4, hM4⟩ : ∃ M4, M4 = M3.setIfInBounds 40 nl := ⟨_, rfl⟩
  have hy1 : BxA w5 w.heap.size 54 M2 := by rw [hM2]; exact BxA.up HZX.out hn5.2.1
  have hy2 : BxA w5 (w.heap.size + 1) 54 ZZ := BxA.up HZY.out hn5.2.1
  have d39 : w5.cell? ⟨w.heap.size, 39, none⟩ = some (.slice ag mg cg) := hy1.cell 39 _ (by rw [hM2]; exact (HM39.out 39 (by omega)).trans HSG.out)
  have f39 := hy1.free 39
  have hz1 : BxA (w5.setCell ⟨w.heap.size, 39, none⟩ (.slice ag' mg cg')) w.heap.size 54 M3 := by rw [hM3]; exact hy1.set 39 _
  have d40 : (w5.setCell ⟨w.heap.size, 39, none⟩ (.slice ag' mg cg')).cell? ⟨w.heap.size, 40, none⟩ = some nl := hz1.cell 40 _ (by rw [hM3, Array.getElem?_setIfInBounds, if_neg (by omega), hM2]; exact (HM39.out 40 (by omega)).trans HGP.out)
  have f40 := hz1.free 40
  have hX : BxA ((w5.setCell ⟨w.heap.size, 39, none⟩ (.slice ag' mg cg')).setCell ⟨w.heap.size, 40, none⟩ nl) w.heap.size 54 M4 := by rw [hM4]; exact hz1.set 40 _
  have hY : BxA ((w5.setCell ⟨w.heap.size, 39, none⟩ (.slice ag' mg cg')).setCell ⟨w.heap.size, 40, none⟩ nl) (w.heap.size + 1) 54 ZZ := BxA.setCells' (fun i hi => (Below.heap_setCell _ _ _ _ hi).trans (Below.heap_setCell _ _ _ _ hi)) hy2 (by simp)
  have hfr5 : Fr (G2 w.heap.size) w3 ((w5.setCell ⟨w.heap.size, 39, none⟩ (.slice ag' mg cg')).setCell ⟨w.heap.size, 40, none⟩ nl) := ((HFS4.out.t (Fr.of_below hn5.2.1)).t (fr_setCell _ _ _ _)).t (fr_setCell _ _ _ _)
  have hfr6 : Fr (G2 w.heap.size) w5 ((w5.setCell ⟨w.heap.size, 39, none⟩ (.slice ag' mg cg')).setCell ⟨w.heap.size, 40, none⟩ nl) := (fr_setCell _ _ _ _).t (fr_setCell _ _ _ _)
  have hpo : Po M4 d' s' (.slice ag' mg cg') ∧ M4[3]? = M[3]? := by
    rw [hM4, hM3, hM2, HM1.out, HFL.out, HQ2.out]
    exact HH.out.patched HD1.out HS1.out hg1 _ _ _ _ _ _ _ _ _ _
  have HPO := hide hpo
  have HX := hide hX
  have HY := hide hY
  have HFR5 := hide hfr5
  have HFR6 := hide hfr6
  have HN5 := hide hn5
  have HI : Hid ((Try.prog.info? 54).map (·.size) = some M4.size) := by apply hide; rw [hpo.1.sz]; exact Try.info_msg
  have HZM : Hid (ZZ.size = M4.size) := by apply hide; rw [HZS.out, hpo.1.sz]
  have H1 := hide hpo.1.one
  have HSW4 : Hid (w.heap.size + 2 ≤ w4.heap.size) := hide HZY.out.lt
  clear hM2 hM3 hM4 hy1 hy2 hz1 hX hY hfr5 hfr6 hpo hn5 hg1
  go_wp2_with (first
    | (go_at_call 50; refine (eachgrp_nil _ _).mono ?_; rintro e wx ⟨rfl, hwx⟩; have hwx := hwx.symm; subst hwx)
    | (refine wpList_load_row rfl 54 (.tmp 1) rfl w.heap.size rfl 54 M4 (0, 0) _ HX.out Try.underlying54 rfl HI.out ?_)
    | (refine wpList_store_row rfl 54 (.tmp 2) (.tmp 19) rfl (w.heap.size + 1) M4 rfl rfl 54 ZZ HY.out HI.out HZM.out H1.out ?_))
  refine bodyPost_ret (results_cell_row rfl _ _ (w.heap.size + 1) 54 M4 (0, 0) _ rfl (setRow_heap _ _ _ M4 _ _ HY.out) Try.underlying54 rfl HI.out) rfl ⟨M4, d', s', i', .slice ag' mg cg', rfl, HPO.out.1, HPO.out.2, ?_, ?_, ?_, ?_, ?_⟩
  · exact own_fr HOD.out (Nat.le_refl _) ((HD3.out.t HFR5.out).t (fr_setRow _ _ _))
  · exact own_fr HO3.out HW22.out (HFR5.out.t (fr_setRow _ _ _))
  · exact own_fr HO4.out HW22.out (HFR5.out.t (fr_setRow _ _ _))
  · exact own_fr HN5.out.1 HSW4.out (HFR6.out.t (fr_setRow _ _ _))
  · exact ((HFR3.out.t HFR5.out).t (fr_setRow _ _ _)).below (Nat.le_refl _) (by rintro i (h | h) <;> omega)
end Go.Proofs.Ytnkllgpibmofiaa
