/- A query with sets, in new memory. -/
import Derived.Test.YtnkllgpibmofiaaOwF
namespace Go.Proofs.Ytnkllgpibmofiaa
open Go.RowKit Go.Maps Go.Sort
set_option linter.unusedVariables false

def qcsS (f t k d lo hi g gr ro : Int) (s : Value) : List Value := [.int .i64 f, .int .i64 t, .int .i64 k, .int .i64 d, nl, .int .i64 lo, .int .i64 hi, nl, .int .i64 g, s, nl, .int .i64 gr, .int .i64 ro]
theorem all_set {M : Array Value} (h : M.all (·.oneCell') = true) (o : Nat) {u : Value} (hu : u.oneCell' = true) : (M.setIfInBounds o u).all (·.oneCell') = true := by
  rw [Array.all_eq_true_iff_forall_mem]
  intro v hv
  obtain ⟨i, hi, e⟩ := Array.getElem_of_mem hv
  have e' : (M.setIfInBounds o u)[i]? = some v := by rw [Array.getElem?_eq_getElem hi, e]
  rw [Array.getElem?_setIfInBounds] at e'
  split at e'
  · split at e'
    · cases e'; exact hu
    · cases e'
  · exact (Array.all_eq_true_iff_forall_mem.1 h) _ (Array.mem_of_getElem? e')
set_option maxRecDepth 20000 in
set_option maxHeartbeats 2000000 in
theorem query_own (f t k d lo hi g gr ro : Int) (w : World) (b cap : Nat) (u : Value) (m : Nat) (xs : List Value) (Q : Array Value) (hQ : Q = (qcsS f t k d lo hi g gr ro (.slice (some ⟨b, 0, none⟩) 1 cap)).toArray) (hc : w.cell? ⟨b, 0, none⟩ = some u) (hcap : 1 ≤ cap) (hr : RdsK 1 w u m xs) (hx1 : ∀ u ∈ xs, u.oneCell' = true) (hm : m ≤ 1000000) : Calls Try.prog 48 #[.agg Q] w fun e w' => ∃ s' i', e = .returned (.agg (Q.setIfInBounds 9 s')) ∧ w'.ownsRow w.heap.size 86 1 s' 1 [i'] ∧ w'.ownsRow w.heap.size 3 1 i' m xs ∧ Below w.heap.size w w' := by
  have hs : sub Q 2 (fcs k d lo hi) := by
    subst hQ
    intro j v hj
    simpa [qcsS, fcs] using (by
      have : (qcsS f t k d lo hi g gr ro (.slice (some ⟨b, 0, none⟩) 1 cap))[2 + j]? = (fcs k d lo hi ++ [.int .i64 g, .slice (some ⟨b, 0, none⟩) 1 cap, nl, .int .i64 gr, .int .i64 ro])[j]? := by
        rw [show qcsS f t k d lo hi g gr ro (.slice (some ⟨b, 0, none⟩) 1 cap) = [.int .i64 f, .int .i64 t] ++ (fcs k d lo hi ++ [.int .i64 g, .slice (some ⟨b, 0, none⟩) 1 cap, nl, .int .i64 gr, .int .i64 ro]) from rfl, List.getElem?_append_right (by simp)]
        simp
      rw [List.getElem?_append_left (by
        have := (List.getElem?_eq_some_iff.1 hj).1
        exact this), hj] at this
      exact this)
  have hsz : Q.size = 13 := by rw [hQ]; rfl
  have c9 : Q[9]? = some (.slice (some ⟨b, 0, none⟩) 1 cap) := by rw [hQ]; rfl
  have c10 : Q[10]? = some nl := by rw [hQ]; rfl
  have h1 : Q.all (·.oneCell') = true := by rw [hQ]; exact all_oneCell_toArray (by intro v hv; simp only [qcsS, List.mem_cons, List.not_mem_nil, or_false] at hv; rcases hv with rfl | rfl | rfl | rfl | rfl | rfl | rfl | rfl | rfl | rfl | rfl | rfl | rfl <;> rfl)
  have HQ := hide hQ
  obtain ⟨G, hG⟩ : ∃ G, G = w.heap.size := ⟨_, rfl⟩
  have HS := hide hs
  clear hs hQ
  go_enter Try.func48, Try.ntmps48
  have hz1 : (Array.mk [Value.int .i64 0, .int .i64 0, .int .i64 0, .int .i64 0, .slice none 0 0, .int .i64 0, .int .i64 0, .slice none 0 0, .int .i64 0, .slice none 0 0, .slice none 0 0, .int .i64 0, .int .i64 0]).size = Q.size := by rw [hsz]; rfl
  have HF1 : Hid ((fcs k d lo hi).toArray.all (·.oneCell') = true) := hide (all_oneCell_toArray (by intro v hv; simp only [fcs, List.mem_cons, List.not_mem_nil, or_false] at hv; rcases hv with rfl | rfl | rfl | rfl | rfl | rfl <;> rfl))
  have HSZ := hide hsz
  have HZ1 := hide hz1
  have H1 := hide h1
  have HC9 := hide c9
  have HC10 := hide c10
  clear hsz hz1 h1 c9 c10
  go_wp2_with (refine wpList_load_mid rfl 40 (.tmp 3) rfl w.heap.size 2 rfl (fcs k d lo hi) _ (rangeM (BxA.up (BxA.new _ _ _) ((Below.refl _ _).alloc (Nat.le_refl _) _)) 2 (fcs k d lo hi) HS.out) Try.underlying40 rfl Try.info_fil ?_)
  go_at_call 67
  refine (filter_plain k d lo hi _).mono ?_
  rintro e w1 ⟨he1, hg⟩
  subst he1
  have hb1 : BxA w1 w.heap.size 44 Q := BxA.up (BxA.up (BxA.new _ _ _) ((Below.refl _ _).alloc (Nat.le_refl _) _)) hg.below
  have hb2 := BxA.up (BxA.new (w.alloc (.cells Q 44)) _ _) hg.below
  rw [show (w.alloc (.cells Q 44)).heap.size = w.heap.size + 1 by simp] at hb2
  have hgw : Grows w w1 := ((Grows.alloc w _).trans (Grows.alloc _ _)).trans hg
  have HB1 := hide hb1
  have HB2 := hide hb2
  have HGW := hide hgw
  have HT : Hid (w1.there w.heap.size 2 6) := hide (thereM hb1 2 6 (by have := HSZ.out; omega))
  clear hg hb1 hb2 hgw
  rw [show (#[Value.int .i64 k, .int .i64 d, nl, .int .i64 lo, .int .i64 hi, nl] : Array Value) = (fcs k d lo hi).toArray from rfl]
  have HSL : Hid (sub Q 2 (fcs k d lo hi).toArray.toList) := HS.out
  have HFI : Hid ((Try.prog.info? 40).map (·.size) = some (fcs k d lo hi).toArray.size) := Try.info_fil
  have HT2 : Hid (w1.there w.heap.size 2 (fcs k d lo hi).toArray.size) := HT.out
  clear HS HT
  generalize hFC : (fcs k d lo hi).toArray = FC at *
  clear hFC
  go_wp2_with (refine wpList_store_mid rfl 40 (.tmp 6) (.tmp 5) rfl w.heap.size 2 FC rfl rfl HT2.out HFI.out HF1.out ?_; have hbx := BxA.setCells FC.toList 2 HB1.out HSL.out; have hby := BxA.setCells' (setCells_other w.heap.size FC.toList 2 w1) HB2.out (by simp); have hgx := Grows.setCells (Nat.le_refl _) FC.toList 2 HGW.out; generalize hw2 : w1.setCells w.heap.size 2 FC.toList = w2 at *; have d9 : w2.cell? ⟨w.heap.size, 9, none⟩ = some (.slice (some ⟨b, 0, none⟩) 1 cap) := hbx.cell 9 _ HC9.out; have d10 : w2.cell? ⟨w.heap.size, 10, none⟩ = some nl := hbx.cell 10 _ HC10.out; have f9 := hbx.free 9; have f10 := hbx.free 10; have HBX := hide hbx; have HBY := hide hby; have HGX := hide hgx; clear hbx hby hgx hw2)
  have hbw2 : Below w.heap.size w w2 := HGX.out.below
  have kE := eachset_one w2 b cap u m xs (by rw [hbw2.cell (World.block_lt_of_cell? _ _ hc)]; exact hc) hcap (hr.below hbw2) hx1 hm
  clear hr hx1 hc d9 d10 f9 f10
  go_at_call 68
  refine kE.mono ?_
  rintro e w3 ⟨s', i', he3, ho1, ho2, hb3⟩
  subst he3
  clear kE
  have hs' : ∃ a1 c1, s' = .slice a1 1 c1 := own_sl ho1
  obtain ⟨a1, c1, rfl⟩ := hs'
  have hb1 : BxA w3 w.heap.size 44 Q := BxA.up HBX.out hb3
  have hb2 := BxA.up HBY.out hb3
  obtain ⟨Q9, hQ9⟩ : ∃ Q9, Q9 = Q.setIfInBounds 9 (.slice a1 1 c1) := ⟨_, rfl⟩
  have hq10 : Q9[10]? = some nl := by rw [hQ9, Array.getElem?_setIfInBounds, if_neg (by omega)]; exact HC10.out
  have d9 : w3.cell? ⟨w.heap.size, 9, none⟩ = some (.slice (some ⟨b, 0, none⟩) 1 cap) := hb1.cell 9 _ HC9.out
  have f9 := hb1.free 9
  have hx9 : BxA (w3.setCell ⟨w.heap.size, 9, none⟩ (.slice a1 1 c1)) w.heap.size 44 Q9 := by rw [hQ9]; exact hb1.set 9 _
  have d10 : (w3.setCell ⟨w.heap.size, 9, none⟩ (.slice a1 1 c1)).cell? ⟨w.heap.size, 10, none⟩ = some nl := hx9.cell 10 _ hq10
  have f10 := hx9.free 10
  have hX : BxA ((w3.setCell ⟨w.heap.size, 9, none⟩ (.slice a1 1 c1)).setCell ⟨w.heap.size, 10, none⟩ nl) w.heap.size 44 Q9 := BxA.same hx9 10 hq10
  have hY := BxA.setCells' (w' := (w3.setCell ⟨w.heap.size, 9, none⟩ (.slice a1 1 c1)).setCell ⟨w.heap.size, 10, none⟩ nl) (fun i hi => (Below.heap_setCell _ _ _ _ hi).trans (Below.heap_setCell _ _ _ _ hi)) hb2 (by simp)
  have hsz9 : Q9.size = 13 := by rw [hQ9]; simpa using HSZ.out
  have h19 : Q9.all (·.oneCell') = true := by rw [hQ9]; exact all_set H1.out 9 rfl
  have HI : Hid ((Try.prog.info? 44).map (·.size) = some Q9.size) := by apply hide; rw [hsz9]; exact Try.info_qry
  have HX := hide hX
  have HY := hide hY
  have HZ9 : Hid ((Array.mk [Value.int .i64 0, .int .i64 0, .int .i64 0, .int .i64 0, .slice none 0 0, .int .i64 0, .int .i64 0, .slice none 0 0, .int .i64 0, .slice none 0 0, .slice none 0 0, .int .i64 0, .int .i64 0]).size = Q9.size) := by apply hide; rw [hsz9]; rfl
  have H19 := hide h19
  have HO1 := hide ho1
  have HO2 := hide ho2
  have HB3 := hide hb3
  have HQ9 := hide hQ9
  have HBW2 := hide hbw2
  have HSW2 : Hid (w.heap.size + 2 ≤ w2.heap.size) := by apply hide; have := HBY.out.lt; omega
  clear hb1 hb2 hx9 hX hY h19 hsz9 ho1 ho2 hb3 hq10 hQ9 hbw2
  go_wp2_with (first
    | (go_at_call 70; refine (listagg_nil _).mono ?_; rintro e wx ⟨rfl, hwx⟩; have hwx := hwx.symm; subst hwx)
    | (refine wpList_load_row rfl 44 (.tmp 1) rfl w.heap.size rfl 44 Q9 (0, 0) _ HX.out Try.underlying44 rfl HI.out ?_)
    | (refine wpList_store_row rfl 44 (.tmp 2) (.tmp 15) rfl (w.heap.size + 1) Q9 rfl rfl 44 _ HY.out HI.out HZ9.out H19.out ?_))
  refine bodyPost_ret (results_cell_row rfl _ _ (w.heap.size + 1) 44 Q9 (0, 0) _ rfl (setRow_heap _ _ _ Q9 _ _ HY.out) Try.underlying44 rfl HI.out) rfl ⟨.slice a1 1 c1, i', by rw [HQ9.out], ?_, ?_, ?_⟩
  · have := HSW2.out
    refine own_keepB HO1.out (by omega) fun i hi => ?_
    rw [setRow_other _ _ _ _ (by omega), Below.heap_setCell _ _ _ _ (by show i ≠ w.heap.size; omega), Below.heap_setCell _ _ _ _ (by show i ≠ w.heap.size; omega)]
  · have := HSW2.out
    refine own_keepB HO2.out (by omega) fun i hi => ?_
    rw [setRow_other _ _ _ _ (by omega), Below.heap_setCell _ _ _ _ (by show i ≠ w.heap.size; omega), Below.heap_setCell _ _ _ _ (by show i ≠ w.heap.size; omega)]
  · have hb : Below w.heap.size w w3 := HBW2.out.trans (HB3.out.mono HBW2.out.size)
    refine ⟨hb.os, hb.tape, hb.output, by have := hb.size; simpa using this, fun i hi => ?_⟩
    rw [setRow_other _ _ _ _ (by omega), Below.heap_setCell _ _ _ _ (by show i ≠ w.heap.size; omega), Below.heap_setCell _ _ _ _ (by show i ≠ w.heap.size; omega)]
    exact hb.block i hi
end Go.Proofs.Ytnkllgpibmofiaa
