/- Messages without lists are copied: queries, messages. -/
import Derived.Test.YtnkllgpibmofiaaCpa
namespace Go.Proofs.Ytnkllgpibmofiaa
open Go.RowKit Go.Maps Go.Sort
set_option linter.unusedVariables false

theorem BxA.same {w : World} {g : Nat} {t : TypeId} {M : Array Value} (h : BxA w g t M) (o : Nat) {c : Value} (hc : M[o]? = some c) : BxA (w.setCell ⟨g, o, none⟩ c) g t M := by
  have h1 := h.set o c
  have e : M.setIfInBounds o c = M := by
    apply Array.ext_getElem?
    intro i
    rw [Array.getElem?_setIfInBounds]
    split
    · rename_i hi
      subst hi
      split
      · exact hc.symm
      · rename_i hn
        rw [Array.getElem?_eq_none (by omega)]
    · rfl
  rw [e] at h1
  exact h1
theorem BxA.setCells {g : Nat} {t : TypeId} {M : Array Value} : ∀ (cs : List Value) (o : Nat) {w : World}, BxA w g t M → (∀ j v, cs[j]? = some v → M[o + j]? = some v) → BxA (w.setCells g o cs) g t M
  | [], _, _, h, _ => h
  | c :: cs, o, w, h, hc => by
    have h1 := h.set o c
    have e : M.setIfInBounds o c = M := by
      have := hc 0 c rfl
      rw [Nat.add_zero] at this
      apply Array.ext_getElem?
      intro i
      rw [Array.getElem?_setIfInBounds]
      split
      · rename_i hi
        subst hi
        split
        · exact this.symm
        · rename_i hn
          rw [Array.getElem?_eq_none (by omega)]
      · rfl
    rw [e] at h1
    exact BxA.setCells cs (o + 1) h1 fun j v hj => by
      have := hc (j + 1) v (by simpa using hj)
      rw [show o + 1 + j = o + (j + 1) by omega]
      exact this
theorem Grows.setCells {w : World} {b : Nat} (hb : w.heap.size ≤ b) : ∀ (cs : List Value) (o : Nat) {w' : World}, Grows w w' → Grows w (w'.setCells b o cs)
  | [], _, _, h => h
  | c :: cs, o, w', h => Grows.setCells hb cs (o + 1) (h.set c hb)
theorem Grows.setRow {w w' : World} (h : Grows w w') {b : Nat} (u : Array Value) (hb : w.heap.size ≤ b) : Grows w (w'.setRow b u) := by
  obtain ⟨q, os, rfl⟩ := h
  obtain ⟨f, hf⟩ : ∃ f, World.setRow (grow (w.drewN q) os) b u = { grow (w.drewN q) os with heap := (grow (w.drewN q) os).heap.modify b f } := ⟨_, rfl⟩
  rw [hf]
  refine ⟨q, os.modify (b - w.heap.size) f, ?_⟩
  unfold grow
  simp only
  rw [modify_app _ _ _ _ (show (w.drewN q).heap.size ≤ b from hb)]
  rfl
theorem setCells_other (b : Nat) : ∀ (cs : List Value) (o : Nat) (w : World) (i : Nat), i ≠ b → (w.setCells b o cs).heap[i]? = w.heap[i]?
  | [], _, _, _, _ => rfl
  | c :: cs, o, w, i, h => (setCells_other b cs (o + 1) _ i h).trans (Below.heap_setCell _ _ _ _ h)
theorem BxA.setCells' {w w' : World} {g b : Nat} {t : TypeId} {M : Array Value} (h : ∀ i, i ≠ b → w'.heap[i]? = w.heap[i]?) (hb : BxA w g t M) (hn : g ≠ b) : BxA w' g t M := by
  unfold BxA at hb ⊢
  rw [h g hn]
  exact hb
theorem rangeM {w : World} {g : Nat} {t : TypeId} {M : Array Value} (h : BxA w g t M) (o : Nat) (cs : List Value) (hc : ∀ j v, cs[j]? = some v → M[o + j]? = some v) : w.rangeAt g o cs := fun j v hj => h.cell (o + j) v (hc j v hj)
theorem thereM {w : World} {g : Nat} {t : TypeId} {M : Array Value} (h : BxA w g t M) (o n : Nat) (hn : o + n ≤ M.size) : w.there g o n := fun j hj => ⟨by rw [h.cell (o + j) (M[o + j]'(by omega)) (by simp)]; rfl, h.free _⟩
theorem BxA.up {w w' : World} {g : Nat} {t : TypeId} {M : Array Value} (h : BxA w g t M) (hb : Below w.heap.size w w') : BxA w' g t M := by
  unfold BxA at h ⊢
  rw [hb.block g (Array.getElem?_eq_some_iff.1 h).1]
  exact h
def sub (M : Array Value) (o : Nat) (cs : List Value) : Prop := ∀ j v, cs[j]? = some v → M[o + j]? = some v
def fcs (k d lo hi : Int) : List Value := [.int .i64 k, .int .i64 d, nl, .int .i64 lo, .int .i64 hi, nl]
def qcs (f t k d lo hi g gr ro : Int) : List Value := [.int .i64 f, .int .i64 t, .int .i64 k, .int .i64 d, nl, .int .i64 lo, .int .i64 hi, nl, .int .i64 g, nl, nl, .int .i64 gr, .int .i64 ro]
theorem Try.info_fil : (Try.prog.info? 40).map (·.size) = some 6 := by kernel_rfl
theorem Try.info_qry : (Try.prog.info? 44).map (·.size) = some 13 := by kernel_rfl
theorem Try.info_fct : (Try.prog.info? 35).map (·.size) = some 3 := by kernel_rfl
theorem Try.info_msg : (Try.prog.info? 54).map (·.size) = some 41 := by kernel_rfl
set_option maxRecDepth 20000 in
set_option maxHeartbeats 2000000 in
theorem query_plain (f t k d lo hi g gr ro : Int) (w : World) (Q : Array Value) (hQ : Q = (qcs f t k d lo hi g gr ro).toArray) : Calls Try.prog 48 #[.agg Q] w fun e w' => e = .returned (.agg Q) ∧ Grows w w' := by
  have hs : sub Q 2 (fcs k d lo hi) := by
    subst hQ
    intro j v hj
    simpa [qcs, fcs] using (by
      have : (qcs f t k d lo hi g gr ro)[2 + j]? = (fcs k d lo hi ++ [.int .i64 g, nl, nl, .int .i64 gr, .int .i64 ro])[j]? := by
        rw [show qcs f t k d lo hi g gr ro = [.int .i64 f, .int .i64 t] ++ (fcs k d lo hi ++ [.int .i64 g, nl, nl, .int .i64 gr, .int .i64 ro]) from rfl, List.getElem?_append_right (by simp)]
        simp
      rw [List.getElem?_append_left (by
        have := (List.getElem?_eq_some_iff.1 hj).1
        exact this), hj] at this
      exact this)
  have hsz : Q.size = 13 := by rw [hQ]; rfl
  have c9 : Q[9]? = some nl := by rw [hQ]; rfl
  have c10 : Q[10]? = some nl := by rw [hQ]; rfl
  have h1 : Q.all (·.oneCell') = true := by rw [hQ]; exact all_oneCell_toArray (by intro v hv; simp only [qcs, List.mem_cons, List.not_mem_nil, or_false] at hv; rcases hv with rfl | rfl | rfl | rfl | rfl | rfl | rfl | rfl | rfl | rfl | rfl | rfl | rfl <;> rfl)
  have HQ := hide hQ
  obtain ⟨G, hG⟩ : ∃ G, G = w.heap.size := ⟨_, rfl⟩
  have HS := hide hs
  clear hs hQ
  go_enter Try.func48, Try.ntmps48
  have hz1 : (Array.mk [Value.int .i64 0, .int .i64 0, .int .i64 0, .int .i64 0, .slice none 0 0, .int .i64 0, .int .i64 0, .slice none 0 0, .int .i64 0, .slice none 0 0, .slice none 0 0, .int .i64 0, .int .i64 0]).size = Q.size := by rw [hsz]; rfl
  have HF1 : Hid ((fcs k d lo hi).toArray.all (·.oneCell') = true) := hide (all_oneCell_toArray (by intro v hv; simp only [fcs, List.mem_cons, List.not_mem_nil, or_false] at hv; rcases hv with rfl | rfl | rfl | rfl | rfl | rfl <;> rfl))
  have HSZ := hide hsz
  have HZ1 := hide hz1
  have H1 := hide h1
  have HC9 := hide c9
  have HC10 := hide c10
  clear hsz hz1 h1 c9 c10
  go_wp2_with (refine wpList_load_mid rfl 40 (.tmp 3) rfl w.heap.size 2 rfl (fcs k d lo hi) _ (rangeM (BxA.up (BxA.new _ _ _) ((Below.refl _ _).alloc (Nat.le_refl _) _)) 2 (fcs k d lo hi) HS.out) Try.underlying40 rfl Try.info_fil ?_)
  go_at_call 67
  refine (filter_plain k d lo hi _).mono ?_
  rintro e w1 ⟨he1, hg⟩
  subst he1
  have hb1 : BxA w1 w.heap.size 44 Q := BxA.up (BxA.up (BxA.new _ _ _) ((Below.refl _ _).alloc (Nat.le_refl _) _)) hg.below
  have hb2 := BxA.up (BxA.new (w.alloc (.cells Q 44)) _ _) hg.below
  rw [show (w.alloc (.cells Q 44)).heap.size = w.heap.size + 1 by simp] at hb2
  have hgw : Grows w w1 := ((Grows.alloc w _).trans (Grows.alloc _ _)).trans hg
  have HB1 := hide hb1
  have HB2 := hide hb2
  have HGW := hide hgw
  have HT : Hid (w1.there w.heap.size 2 6) := hide (thereM hb1 2 6 (by have := HSZ.out; omega))
  clear hg hb1 hb2 hgw
  rw [show (#[Value.int .i64 k, .int .i64 d, nl, .int .i64 lo, .int .i64 hi, nl] : Array Value) = (fcs k d lo hi).toArray from rfl]
  have HSL : Hid (sub Q 2 (fcs k d lo hi).toArray.toList) := HS.out
  have HFI : Hid ((Try.prog.info? 40).map (·.size) = some (fcs k d lo hi).toArray.size) := Try.info_fil
  have HT2 : Hid (w1.there w.heap.size 2 (fcs k d lo hi).toArray.size) := HT.out
  clear HS HT
  generalize hFC : (fcs k d lo hi).toArray = FC at *
  clear hFC
  go_wp2_with (refine wpList_store_mid rfl 40 (.tmp 6) (.tmp 5) rfl w.heap.size 2 FC rfl rfl HT2.out HFI.out HF1.out ?_; have hbx := BxA.setCells FC.toList 2 HB1.out HSL.out; have hby := BxA.setCells' (setCells_other w.heap.size FC.toList 2 w1) HB2.out (by simp); have hgx := Grows.setCells (Nat.le_refl _) FC.toList 2 HGW.out; generalize hw2 : w1.setCells w.heap.size 2 FC.toList = w2 at *; have d9 : w2.cell? ⟨w.heap.size, 9, none⟩ = some nl := hbx.cell 9 _ HC9.out; have d10 : w2.cell? ⟨w.heap.size, 10, none⟩ = some nl := hbx.cell 10 _ HC10.out; have f9 := hbx.free 9; have f10 := hbx.free 10; have HBX := hide hbx; have HBY := hide hby; have HGX := hide hgx; clear hbx hby hgx hw2)
  have hX : BxA ((w2.setCell ⟨w.heap.size, 9, none⟩ nl).setCell ⟨w.heap.size, 10, none⟩ nl) w.heap.size 44 Q := BxA.same (BxA.same HBX.out 9 HC9.out) 10 HC10.out
  have hY : BxA ((w2.setCell ⟨w.heap.size, 9, none⟩ nl).setCell ⟨w.heap.size, 10, none⟩ nl) (w.heap.size + 1) 44 _ := BxA.setCells' (fun i hi => (Below.heap_setCell _ _ _ _ hi).trans (Below.heap_setCell _ _ _ _ hi)) HBY.out (by simp)
  have hG : Grows w ((w2.setCell ⟨w.heap.size, 9, none⟩ nl).setCell ⟨w.heap.size, 10, none⟩ nl) := (HGX.out.set nl (Nat.le_refl _)).set nl (Nat.le_refl _)
  have HX := hide hX
  have HY := hide hY
  have HG := hide hG
  have HI : Hid ((Try.prog.info? 44).map (·.size) = some Q.size) := by apply hide; rw [HSZ.out]; exact Try.info_qry
  clear hX hY hG
  go_at_call 68
  refine (eachset_nil _ _).mono ?_
  rintro e wx ⟨rfl, hwx⟩
  have hwx := hwx.symm
  subst hwx
  go_wp2_with (first
    | (go_at_call 70; refine (listagg_nil _).mono ?_; rintro e wx ⟨rfl, hwx⟩; have hwx := hwx.symm; subst hwx)
    | (refine wpList_load_row rfl 44 (.tmp 1) rfl w.heap.size rfl 44 Q (0, 0) _ HX.out Try.underlying44 rfl HI.out ?_)
    | (refine wpList_store_row rfl 44 (.tmp 2) (.tmp 15) rfl (w.heap.size + 1) Q rfl rfl 44 _ HY.out HI.out HZ1.out H1.out ?_))
  refine bodyPost_ret (results_cell_row rfl _ _ (w.heap.size + 1) 44 Q (0, 0) _ rfl (setRow_heap _ _ _ Q _ _ HY.out) Try.underlying44 rfl HI.out) rfl ⟨rfl, ?_⟩
  exact HG.out.setRow Q (by omega)
end Go.Proofs.Ytnkllgpibmofiaa
