/- A fact with dimensions, and a query with sets, in new memory. -/
import Derived.Test.YtnkllgpibmofiaaOwE
namespace Go.Proofs.Ytnkllgpibmofiaa
open Go.RowKit Go.Maps Go.Sort
set_option linter.unusedVariables false

theorem New.up {w0 w1 w2 w3 : World} {e k m : Nat} {v : Value} {xs : List Value} (h : New w1 w2 e k v m xs) (h0 : Below w0.heap.size w0 w1) (h3 : Below w2.heap.size w2 w3) : w3.ownsRow w0.heap.size e k v m xs := by
  have h1 := own_below h.1 h3
  refine ⟨h1.1, ?_⟩
  rcases h1.2 with h2 | ⟨g', cap, cur, e1, e2, e3, e4⟩
  · exact .inl h2
  · exact .inr ⟨g', cap, cur, e1, Nat.le_trans h0.size e2, e3, e4⟩
theorem own_keepB {w w' : World} {b0 b1 e k n : Nat} {v : Value} {xs : List Value} (h : w.ownsRow b1 e k v n xs) (hb : b0 ≤ b1) (hk : ∀ i, b1 ≤ i → w'.heap[i]? = w.heap[i]?) : w'.ownsRow b0 e k v n xs := by
  refine ⟨h.1, ?_⟩
  rcases h.2 with h2 | ⟨g', cap, cur, e1, e2, e3, e4⟩
  · exact .inl h2
  · exact .inr ⟨g', cap, cur, e1, by omega, by rw [hk g' e2]; exact e3, e4⟩
set_option maxRecDepth 20000 in
set_option maxHeartbeats 2000000 in
theorem fact_own (t : Int) (a : Option Addr) (m c : Nat) (xs : List Value) (w : World) (hr : RdsK 1 w (.slice a m c) m xs) (h1 : ∀ u ∈ xs, u.oneCell' = true) (hm : m ≤ 1000000) :
    Calls Try.prog 47 #[.agg #[.int .i64 t, .slice a m c, nl]] w fun e w' => ∃ d', e = .returned (.agg #[.int .i64 t, d', nl]) ∧ w'.ownsRow w.heap.size 9 1 d' m xs ∧ Below w.heap.size w w' := by
  have hb0 : ∀ o1 o2, Below w.heap.size w ((w.alloc o1).alloc o2) := fun o1 o2 => ((Below.refl _ _).alloc (Nat.le_refl _) _).alloc (by simp) _
  have kL := fun o1 o2 => listStr_any ((w.alloc o1).alloc o2) (.slice a m c) m xs (hr.below (hb0 o1 o2)) h1 hm
  have HB0 := hide hb0
  clear hb0 hr h1
  go_enter Try.func47, Try.ntmps47
  go_wp2_with fail
  go_at_call 65
  refine (kL _ _).mono ?_
  rintro e w1 ⟨d', he1, hn1⟩
  subst he1
  have hb1 : BxA w1 w.heap.size 35 #[.int .i64 t, .slice a m c, nl] := BxA.up (BxA.up (BxA.new _ _ _) ((Below.refl _ _).alloc (Nat.le_refl _) _)) hn1.2.1
  have hb2 := BxA.up (BxA.new (w.alloc (.cells #[.int .i64 t, .slice a m c, nl] 35)) 35 #[.int .i64 0, .slice none 0 0, .slice none 0 0]) hn1.2.1
  rw [show (w.alloc (.cells #[.int .i64 t, .slice a m c, nl] 35)).heap.size = w.heap.size + 1 by simp] at hb2
  have hbw : Below w.heap.size w w1 := (HB0.out _ _).trans (hn1.2.1.mono (HB0.out _ _).size)
  obtain ⟨a', c', hsl⟩ := own_sl hn1.1
  subst hsl
  have hX : BxA ((w1.setCell ⟨w.heap.size, 1, none⟩ (.slice a' m c')).setCell ⟨w.heap.size, 2, none⟩ nl) w.heap.size 35 #[.int .i64 t, .slice a' m c', nl] := (hb1.set 1 _).set 2 _
  have hY : BxA ((w1.setCell ⟨w.heap.size, 1, none⟩ (.slice a' m c')).setCell ⟨w.heap.size, 2, none⟩ nl) (w.heap.size + 1) 35 #[.int .i64 0, .slice none 0 0, .slice none 0 0] := BxA.setCells' (fun i hi => (Below.heap_setCell _ _ _ _ hi).trans (Below.heap_setCell _ _ _ _ hi)) hb2 (by simp)
  have d1 : w1.cell? ⟨w.heap.size, 1, none⟩ = some (.slice a m c) := hb1.cell 1 _ rfl
  have d2 : (w1.setCell ⟨w.heap.size, 1, none⟩ (.slice a' m c')).cell? ⟨w.heap.size, 2, none⟩ = some nl := (hb1.set 1 _).cell 2 _ rfl
  have e1 := hb1.free 1
  have e2 := (hb1.set 1 (.slice a' m c')).free 2
  obtain ⟨FD, hFD⟩ : ∃ FD : Array Value, FD = #[.int .i64 t, .slice a' m c', nl] := ⟨_, rfl⟩
  have HFD := hide hFD
  have HFI : Hid ((Try.prog.info? 35).map (·.size) = some FD.size) := by apply hide; rw [hFD]; exact Try.info_fct
  have HF1 : Hid (FD.all (·.oneCell') = true) := by apply hide; rw [hFD]; exact all_oneCell_toArray (cs := [.int .i64 t, .slice a' m c', nl]) (by intro v hv; simp only [List.mem_cons, List.not_mem_nil, or_false] at hv; rcases hv with rfl | rfl | rfl <;> rfl)
  have HFZ : Hid (FD.size = 3) := by apply hide; rw [hFD]; rfl
  rw [← hFD] at hX
  clear hFD
  have HX := hide hX
  have HY := hide hY
  have HN1 := hide hn1
  have HBW := hide hbw
  clear hb1 hb2 hn1 hbw hX hY kL
  go_wp2_with (first
    | (go_at_call 66; refine (listi64_nil _).mono ?_; rintro e wx ⟨rfl, hwx⟩; have hwx := hwx.symm; subst hwx)
    | (refine wpList_load_row rfl 35 (.tmp 1) rfl w.heap.size rfl 35 FD (0, 0) _ HX.out Try.underlying35 rfl HFI.out ?_)
    | (refine wpList_store_row rfl 35 (.tmp 2) (.tmp 11) rfl (w.heap.size + 1) FD rfl rfl 35 _ HY.out HFI.out (by rw [HFZ.out]; rfl) HF1.out ?_))
  refine bodyPost_ret (results_cell_row rfl _ _ (w.heap.size + 1) 35 FD (0, 0) _ rfl (setRow_heap _ _ _ FD _ _ HY.out) Try.underlying35 rfl HFI.out) rfl ⟨.slice a' m c', by rw [HFD.out], ?_, ?_⟩
  · have hN := HN1.out
    have h2 : 2 + w.heap.size ≤ ((w.alloc (.cells #[.int .i64 t, .slice a m c, nl] 35)).alloc (.cells #[.int .i64 0, .slice none 0 0, .slice none 0 0] 35)).heap.size := by simp; omega
    refine own_keepB hN.1 (by omega) fun i hi => ?_
    rw [setRow_other _ _ _ _ (by omega), Below.heap_setCell _ _ _ _ (by show i ≠ w.heap.size; omega), Below.heap_setCell _ _ _ _ (by show i ≠ w.heap.size; omega)]
  · refine ⟨HBW.out.os, HBW.out.tape, HBW.out.output, by have := HBW.out.size; simpa using this, fun i hi => ?_⟩
    rw [setRow_other _ _ _ _ (by omega), Below.heap_setCell _ _ _ _ (by show i ≠ w.heap.size; omega), Below.heap_setCell _ _ _ _ (by show i ≠ w.heap.size; omega)]
    exact HBW.out.block i hi
end Go.Proofs.Ytnkllgpibmofiaa
