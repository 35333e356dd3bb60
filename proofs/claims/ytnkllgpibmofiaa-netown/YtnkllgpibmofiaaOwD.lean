/- The one message under way is peeked at, is lost. -/
import Derived.Test.YtnkllgpibmofiaaOwS
namespace Go.Proofs.Ytnkllgpibmofiaa
open Go.RowKit Go.Maps Go.Sort
set_option linter.unusedVariables false

theorem NtO.row {w : World} {n r gb cr : Nat} {M : Array Value} (h : NtO w n r gb cr M) : 1 ≤ cr ∧ cr ≤ maxLen ∧ w.cell? ⟨r, 0, none⟩ = some (.pointer (some ⟨gb, 0, none⟩)) ∧ r ≠ n := by
  obtain ⟨b, c, hv, h1, h2, h3, h4⟩ := own_at0 h.o
  injection hv with e1 e2 e3
  injection e1 with e1
  injection e1 with e1
  subst e1
  subst e3
  refine ⟨h1, h2, h4, fun e => ?_⟩
  have := own_ne_bx h.o h.b (by decide)
  rw [e] at this
  exact this rfl
theorem waiting_own (w : World) (n r gb cr : Nat) (M : Array Value) (h : NtO w n r gb cr M) : Calls Try.prog 22 #[.pointer (some ⟨n, 0, none⟩)] w fun e w' => e = .returned (.int .i64 1) ∧ w' = w := by
  have c1 : w.cell? ⟨n, 1, none⟩ = some (.slice (some ⟨r, 0, none⟩) 1 cr) := h.b.cell 1 _ rfl
  clear h
  go_enter Try.func22, Try.ntmps22
  go_wp2_with fail
  go_ret
  exact ⟨rfl, rfl⟩
theorem has_own (w : World) (n r gb cr : Nat) (M : Array Value) (h : NtO w n r gb cr M) : Calls Try.prog 36 #[.pointer (some ⟨n, 0, none⟩), .int .i64 0] w fun e w' => e = .returned (.bool true) ∧ w' = w := by
  have kW := waiting_own w n r gb cr M h
  clear h
  go_enter Try.func36, Try.ntmps36
  go_wp2_with (go_at_call 22; refine kW.mono ?_; rintro e w1 ⟨rfl, hw1⟩; have hw1 := hw1.symm; subst hw1)
  go_ret
  exact ⟨rfl, rfl⟩
set_option maxRecDepth 20000 in
set_option maxHeartbeats 4000000 in
theorem lose_own (w : World) (n r gb cr : Nat) (M : Array Value) (h : NtO w n r gb cr M) : Calls Try.prog 15 #[.pointer (some ⟨n, 0, none⟩), .int .i64 0] w fun e w' => e = .returned (.bool true) ∧ Fr (fun i => i = n ∨ i = r) w w' := by
  have kH := has_own w n r gb cr M h
  obtain ⟨hc1, hc2, hcell, hrn⟩ := h.row
  have c1 : w.cell? ⟨n, 1, none⟩ = some (.slice (some ⟨r, 0, none⟩) 1 cr) := h.b.cell 1 _ rfl
  have kD := del_any w r cr 0 0 [.pointer (some ⟨gb, 0, none⟩)] h.o (by intro u hu; simp only [List.mem_cons, List.not_mem_nil, or_false] at hu; subst hu; rfl) (by omega) (by omega)
  have H := hide h
  clear h hcell
  go_enter Try.func15, Try.ntmps15
  go_wp2_with (first
    | (go_at_call 36; refine kH.mono ?_; rintro e w1 ⟨he1, hw1⟩; have hw1 := hw1.symm; subst he1; subst hw1)
    | (go_at_call 37; refine kD.mono ?_; rintro e w2 ⟨he2, ho2, hg2⟩; subst he2; have HG2 := hide hg2; have hn2 : BxA w2 n 89 #[.int .u64 1, .slice (some ⟨r, 0, none⟩) 1 cr] := bx_grown2 H.out.b hg2 (fun e => hrn (by injection e with e; exact e.symm)); have d1 := hn2.cell 1 _ rfl; have df := hn2.free 1; clear ho2 hg2 hn2))
  go_ret
  refine ⟨rfl, ?_⟩
  exact (Fr.of_grown (F := fun i => i = n ∨ i = r) HG2.out fun j hj => .inl (.inr (by injection hj with hj; exact hj.symm))).trans (Fr.of_grown (F := fun i => i = n ∨ i = r) grown_setCell fun j hj => .inl (.inl (by injection hj with hj; exact hj.symm))) fun _ _ h => h
set_option maxRecDepth 20000 in
set_option maxHeartbeats 4000000 in
theorem peek_own (w : World) (n r gb cr lo : Nat) (M : Array Value) (a : Str) (c ver : Int) (h : NtO w n r gb cr M) (hC : Cn w lo M a c ver) : Calls Try.prog 23 #[.pointer (some ⟨n, 0, none⟩), .int .i64 0] w fun e w' => ∃ M', e = .returned (.tuple #[.agg M', .bool true]) ∧ Cn w' w.heap.size M' a c ver ∧ Below w.heap.size w w' := by
  obtain ⟨W, hW⟩ : ∃ W, W = w.alloc (.cells (List.toArray ((Value.int .i64 0) :: (Value.int .i64 0) :: (Value.int .i64 0) :: (Value.int .u64 0) :: (Value.int .u64 0) :: (Value.int .u64 0) :: (Value.int .i64 0) :: (Value.int .u64 0) :: (Value.int .i64 0) :: (Value.int .i64 0) :: (Value.slice none 0 0) :: (Value.slice none 0 0) :: (Value.int .i64 0) :: (Value.int .i64 0) :: (Value.int .i64 0) :: (Value.int .i64 0) :: (Value.slice none 0 0) :: (Value.int .i64 0) :: (Value.int .i64 0) :: (Value.slice none 0 0) :: (Value.int .i64 0) :: (Value.slice none 0 0) :: (Value.slice none 0 0) :: (Value.int .i64 0) :: (Value.int .i64 0) :: (Value.int .i64 0) :: (Value.int .i64 0) :: (Value.int .i64 0) :: (Value.int .i64 0) :: (Value.int .i64 0) :: (Value.int .i64 0) :: (Value.int .i64 0) :: (Value.bool false) :: (Value.int .i64 0) :: (Value.int .i64 0) :: (Value.int .i64 0) :: (Value.int .i64 0) :: (Value.int .i64 0) :: (Value.int .i64 0) :: (Value.slice none 0 0) :: (Value.slice none 0 0) :: [])) 54) := ⟨_, rfl⟩
  have hB : Below w.heap.size w W := by rw [hW]; exact (Below.refl _ _).alloc (Nat.le_refl _) _
  obtain ⟨ZZ, hZ, hzs⟩ : ∃ ZZ, BxA W w.heap.size 54 ZZ ∧ ZZ.size = 41 := ⟨_, by rw [hW]; exact BxA.new _ _ _, rfl⟩
  have hN := h.up hB
  have kH := has_own W n r gb cr M hN
  have kC := copied_cn W lo M a c ver (hC.up hB)
  obtain ⟨hc1, hc2, hcell, hrn⟩ := hN.row
  have c1 : W.cell? ⟨n, 1, none⟩ = some (.slice (some ⟨r, 0, none⟩) 1 cr) := hN.b.cell 1 _ rfl
  have HM := hide hN.m
  have HI : Hid ((Try.prog.info? 54).map (·.size) = some M.size) := by apply hide; rw [hC.sz.1]; exact Try.info_msg
  have HB := hide hB
  have HZ := hide hZ
  have HZS := hide hzs
  have HWS : Hid (w.heap.size < W.heap.size) := hide hZ.lt
  unfold maxLen at hc2
  clear h hC hN hB hZ hzs
  go_enter Try.func23, Try.ntmps23
  go_wp2_with fail
  rw [← hW]
  clear hW
  go_at_call 36
  refine kH.mono ?_
  rintro e w1 ⟨he1, hw1⟩
  have hw1 := hw1.symm
  subst he1
  subst hw1
  go_wp2_with (refine wpList_load_row rfl 54 (.tmp 18) rfl gb rfl 54 M (0, 0) _ HM.out Try.underlying54 rfl HI.out ?_)
  go_at_call 35
  refine kC.mono ?_
  rintro e w2 ⟨M', he2, hC2, -, hb2⟩
  subst he2
  have HI' : Hid ((Try.prog.info? 54).map (·.size) = some M'.size) := by apply hide; rw [hC2.sz.1]; exact Try.info_msg
  have H1' := hide hC2.sz.2
  have HZ2 := hide (BxA.up HZ.out hb2)
  have HZM : Hid (ZZ.size = M'.size) := by apply hide; rw [HZS.out, hC2.sz.1]
  have HC2 := hide hC2
  have HB2 := hide hb2
  clear hC2 hb2 c1 hcell
  go_wp2_with (refine wpList_store_row rfl 54 (.tmp 4) (.tmp 20) rfl w.heap.size M' rfl rfl 54 ZZ HZ2.out HI'.out HZM.out H1'.out ?_)
  refine bodyPost_ret (results_two rfl _ _ w.heap.size 54 M' _ (.bool true) rfl rfl (setRow_heap _ _ _ M' _ _ HZ2.out) Try.underlying54 rfl HI'.out) rfl ⟨M', rfl, ?_, ?_⟩
  · exact HC2.out.fr (Nat.le_of_lt HWS.out) (Fr.of_grown (F := fun i => i = w.heap.size) (setRow_grown' w2 w.heap.size M') fun j hj => .inl (by injection hj with hj; exact hj.symm)) fun i hi e => by have := HWS.out; omega
  · have hbw : Below w.heap.size w w2 := HB.out.trans (HB2.out.mono HB.out.size)
    exact (Fr.of_below (F := fun i => i = w.heap.size) hbw |>.trans (Fr.of_grown (F := fun i => i = w.heap.size) (setRow_grown' w2 w.heap.size M') fun j hj => .inl (by injection hj with hj; exact hj.symm)) fun _ _ h => h).below (Nat.le_refl _) fun i hi => by omega
end Go.Proofs.Ytnkllgpibmofiaa
