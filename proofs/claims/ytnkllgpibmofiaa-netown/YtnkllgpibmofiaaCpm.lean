/- Messages without lists are copied. -/
import Derived.Test.YtnkllgpibmofiaaCpy
namespace Go.Proofs.Ytnkllgpibmofiaa
open Go.RowKit Go.Maps Go.Sort
set_option linter.unusedVariables false

def fct (t : Int) : List Value := [.int .i64 t, nl, nl]
/-- A message without lists. -/
structure Pl (M : Array Value) : Prop where
  sz : M.size = 41
  one : M.all (·.oneCell') = true
  ft : ∃ t, sub M 9 (fct t)
  qr : ∃ f t k d lo hi g gr ro, sub M 12 (qcs f t k d lo hi g gr ro)
  sg : M[39]? = some nl
  gp : M[40]? = some nl
theorem fct_one (t : Int) : (fct t).toArray.all (·.oneCell') = true := all_oneCell_toArray (by intro v hv; simp only [fct, List.mem_cons, List.not_mem_nil, or_false] at hv; rcases hv with rfl | rfl | rfl <;> rfl)
theorem qcs_one (f t k d lo hi g gr ro : Int) : (qcs f t k d lo hi g gr ro).toArray.all (·.oneCell') = true := all_oneCell_toArray (by intro v hv; simp only [qcs, List.mem_cons, List.not_mem_nil, or_false] at hv; rcases hv with rfl | rfl | rfl | rfl | rfl | rfl | rfl | rfl | rfl | rfl | rfl | rfl | rfl <;> rfl)
set_option maxRecDepth 20000 in
set_option maxHeartbeats 4000000 in
theorem copied_plain (w : World) (M : Array Value) (h : Pl M) : Calls Try.prog 35 #[.agg M] w fun e w' => e = .returned (.agg M) ∧ Grows w w' := by
  obtain ⟨t0, hft⟩ := h.ft
  obtain ⟨f, t, k, d, lo, hi, g, gr, ro, hqr⟩ := h.qr
  have kF := fact_plain t0
  have kQ := fun w => query_plain f t k d lo hi g gr ro w _ rfl
  have HSF : Hid (sub M 9 (fct t0)) := hft
  have HSF2 : Hid (sub M 9 (fct t0).toArray.toList) := hft
  have HIF : Hid ((Try.prog.info? 35).map (·.size) = some (fct t0).toArray.size) := Try.info_fct
  have HIF1 : Hid ((Try.prog.info? 35).map (·.size) = some (fct t0).length) := Try.info_fct
  have HOF := hide (fct_one t0)
  have HSQ2 : Hid (sub M 12 (qcs f t k d lo hi g gr ro).toArray.toList) := hqr
  have HIQ : Hid ((Try.prog.info? 44).map (·.size) = some (qcs f t k d lo hi g gr ro).toArray.size) := Try.info_qry
  have HOQ := hide (qcs_one f t k d lo hi g gr ro)
  have HLF : Hid ((fct t0).toArray.size = 3) := rfl
  have HLQ : Hid ((qcs f t k d lo hi g gr ro).toArray.size = 13) := rfl
  have HH := hide h
  have kF : ∀ w, Calls Try.prog 47 #[.agg (fct t0).toArray] w fun e w' => e = .returned (.agg (fct t0).toArray) ∧ Grows w w' := kF
  generalize (qcs f t k d lo hi g gr ro).toArray = Q at *
  generalize hFF : (fct t0).toArray = FF at *
  have HFF := hide hFF
  clear hft hqr h hFF
  go_enter Try.func35, Try.ntmps35
  go_wp2_with (refine wpList_load_mid rfl 35 (.tmp 3) rfl w.heap.size 9 rfl (fct t0) _ (rangeM (BxA.up (BxA.new _ _ _) ((Below.refl _ _).alloc (Nat.le_refl _) _)) 9 (fct t0) HSF.out) Try.underlying35 rfl HIF1.out ?_; rw [HFF.out])
  go_at_call 47
  refine (kF _).mono ?_
  rintro e w1 ⟨he1, hg1⟩
  subst he1
  have hb1 : BxA w1 w.heap.size 54 M := BxA.up (BxA.up (BxA.new _ _ _) ((Below.refl _ _).alloc (Nat.le_refl _) _)) hg1.below
  have hb2 := BxA.up (BxA.new (w.alloc (.cells M 54)) _ _) hg1.below
  rw [show (w.alloc (.cells M 54)).heap.size = w.heap.size + 1 by simp] at hb2
  have hgw : Grows w w1 := ((Grows.alloc w _).trans (Grows.alloc _ _)).trans hg1
  have HT : Hid (w1.there w.heap.size 9 FF.size) := hide (thereM hb1 9 _ (by have := HH.out.sz; have := HLF.out; omega))
  obtain ⟨ZZ, hzz, hzs⟩ : ∃ ZZ, BxA w1 (w.heap.size + 1) 54 ZZ ∧ ZZ.size = 41 := ⟨_, hb2, rfl⟩
  have HB1 := hide hb1
  have HB2 := hide hzz
  have HZS := hide hzs
  have HGW := hide hgw
  clear hg1 hb1 hb2 hgw hzz hzs
  have HIQ1 : Hid ((Try.prog.info? 44).map (·.size) = some Q.toList.length) := by apply hide; rw [Array.length_toList]; exact HIQ.out
  go_wp2_with (first
    | (refine wpList_store_mid rfl 35 (.tmp 6) (.tmp 5) rfl w.heap.size 9 FF rfl rfl HT.out HIF.out HOF.out ?_; have hbx := BxA.setCells FF.toList 9 HB1.out HSF2.out; have hby := BxA.setCells' (setCells_other w.heap.size FF.toList 9 w1) HB2.out (by simp); have hgx := Grows.setCells (Nat.le_refl _) FF.toList 9 HGW.out; generalize hw2 : w1.setCells w.heap.size 9 FF.toList = w2 at *; have HBX := hide hbx; have HBY := hide hby; have HGX := hide hgx; have HR2 : Hid (w2.rangeAt w.heap.size 12 Q.toList) := hide (rangeM hbx 12 _ HSQ2.out); have HT2 : Hid (w2.there w.heap.size 12 Q.size) := hide (thereM hbx 12 _ (by have := HH.out.sz; have := HLQ.out; omega)); clear hbx hby hgx hw2 HB1 HB2 HGW HT)
    | (refine wpList_load_mid rfl 44 (.tmp 7) rfl w.heap.size 12 rfl Q.toList _ HR2.out Try.underlying44 rfl HIQ1.out ?_; rw [Array.toArray_toList]))
  go_at_call 48
  refine (kQ _).mono ?_
  rintro e w3 ⟨he3, hg3⟩
  subst he3
  have hb1 : BxA w3 w.heap.size 54 M := BxA.up HBX.out hg3.below
  have hb2 : BxA w3 (w.heap.size + 1) 54 ZZ := BxA.up HBY.out hg3.below
  have hgw : Grows w w3 := HGX.out.trans hg3
  have HT : Hid (w3.there w.heap.size 12 Q.size) := hide (thereM hb1 12 _ (by have := HH.out.sz; have := HLQ.out; omega))
  have HB1 := hide hb1
  have HB2 := hide hb2
  have HGW := hide hgw
  clear hg3 hb1 hb2 hgw HBX HBY HGX HR2 HT2
  have HSG := hide HH.out.sg
  have HGP := hide HH.out.gp
  go_wp2_with (refine wpList_store_mid rfl 44 (.tmp 10) (.tmp 9) rfl w.heap.size 12 Q rfl rfl HT.out HIQ.out HOQ.out ?_; have hbx := BxA.setCells Q.toList 12 HB1.out HSQ2.out; have hby := BxA.setCells' (setCells_other w.heap.size Q.toList 12 w3) HB2.out (by simp); have hgx := Grows.setCells (Nat.le_refl _) Q.toList 12 HGW.out; generalize hw4 : w3.setCells w.heap.size 12 Q.toList = w4 at *; have HBX := hide hbx; have HBY := hide hby; have HGX := hide hgx; have d9 : w4.cell? ⟨w.heap.size, 39, none⟩ = some nl := hbx.cell 39 _ HSG.out; have d10 : w4.cell? ⟨w.heap.size, 40, none⟩ = some nl := hbx.cell 40 _ HGP.out; have f9 := hbx.free 39; have f10 := hbx.free 40; clear hbx hby hgx hw4 HB1 HB2 HGW HT)
  have hX : BxA ((w4.setCell ⟨w.heap.size, 39, none⟩ nl).setCell ⟨w.heap.size, 40, none⟩ nl) w.heap.size 54 M := BxA.same (BxA.same HBX.out 39 HSG.out) 40 HGP.out
  have hY : BxA ((w4.setCell ⟨w.heap.size, 39, none⟩ nl).setCell ⟨w.heap.size, 40, none⟩ nl) (w.heap.size + 1) 54 ZZ := BxA.setCells' (fun i hi => (Below.heap_setCell _ _ _ _ hi).trans (Below.heap_setCell _ _ _ _ hi)) HBY.out (by simp)
  have hG : Grows w ((w4.setCell ⟨w.heap.size, 39, none⟩ nl).setCell ⟨w.heap.size, 40, none⟩ nl) := (HGX.out.set nl (Nat.le_refl _)).set nl (Nat.le_refl _)
  have HX := hide hX
  have HY := hide hY
  have HG := hide hG
  have HI : Hid ((Try.prog.info? 54).map (·.size) = some M.size) := by apply hide; rw [HH.out.sz]; exact Try.info_msg
  have HZM : Hid (ZZ.size = M.size) := by apply hide; rw [HZS.out, HH.out.sz]
  have H1 := hide HH.out.one
  clear hX hY hG
  go_at_call 49
  refine (listseg_nil _).mono ?_
  rintro e wx ⟨rfl, hwx⟩
  have hwx := hwx.symm
  subst hwx
  go_wp2_with (first
    | (go_at_call 50; refine (eachgrp_nil _ _).mono ?_; rintro e wx ⟨rfl, hwx⟩; have hwx := hwx.symm; subst hwx)
    | (refine wpList_load_row rfl 54 (.tmp 1) rfl w.heap.size rfl 54 M (0, 0) _ HX.out Try.underlying54 rfl HI.out ?_)
    | (refine wpList_store_row rfl 54 (.tmp 2) (.tmp 19) rfl (w.heap.size + 1) M rfl rfl 54 ZZ HY.out HI.out HZM.out H1.out ?_))
  refine bodyPost_ret (results_cell_row rfl _ _ (w.heap.size + 1) 54 M (0, 0) _ rfl (setRow_heap _ _ _ M _ _ HY.out) Try.underlying54 rfl HI.out) rfl ⟨rfl, ?_⟩
  exact HG.out.setRow M (by omega)
end Go.Proofs.Ytnkllgpibmofiaa
