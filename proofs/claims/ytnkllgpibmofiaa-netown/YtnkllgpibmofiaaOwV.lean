/- The one message under way is delivered. -/
import Derived.Test.YtnkllgpibmofiaaOwD
namespace Go.Proofs.Ytnkllgpibmofiaa
open Go.RowKit Go.Maps Go.Sort
set_option linter.unusedVariables false

set_option maxRecDepth 20000 in
set_option maxHeartbeats 4000000 in
theorem deliver_own (w : World) (n r gb cr lo : Nat) (M : Array Value) (a : Str) (c ver : Int) (h : NtO w n r gb cr M) (hC : Cn w lo M a c ver) : Calls Try.prog 19 #[.pointer (some ⟨n, 0, none⟩), .int .i64 0] w fun e w' => ∃ M', e = .returned (.tuple #[.agg M', .bool true]) ∧ Cn w' w.heap.size M' a c ver ∧ Fr (fun i => i = n ∨ i = r) w w' := by
  obtain ⟨W0, hW0⟩ : ∃ W, W = w.alloc (.cells (List.toArray ((Value.int .i64 0) :: (Value.int .i64 0) :: (Value.int .i64 0) :: (Value.int .u64 0) :: (Value.int .u64 0) :: (Value.int .u64 0) :: (Value.int .i64 0) :: (Value.int .u64 0) :: (Value.int .i64 0) :: (Value.int .i64 0) :: (Value.slice none 0 0) :: (Value.slice none 0 0) :: (Value.int .i64 0) :: (Value.int .i64 0) :: (Value.int .i64 0) :: (Value.int .i64 0) :: (Value.slice none 0 0) :: (Value.int .i64 0) :: (Value.int .i64 0) :: (Value.slice none 0 0) :: (Value.int .i64 0) :: (Value.slice none 0 0) :: (Value.slice none 0 0) :: (Value.int .i64 0) :: (Value.int .i64 0) :: (Value.int .i64 0) :: (Value.int .i64 0) :: (Value.int .i64 0) :: (Value.int .i64 0) :: (Value.int .i64 0) :: (Value.int .i64 0) :: (Value.int .i64 0) :: (Value.bool false) :: (Value.int .i64 0) :: (Value.int .i64 0) :: (Value.int .i64 0) :: (Value.int .i64 0) :: (Value.int .i64 0) :: (Value.int .i64 0) :: (Value.slice none 0 0) :: (Value.slice none 0 0) :: [])) 54) := ⟨_, rfl⟩
  have hB0 : Below w.heap.size w W0 := by rw [hW0]; exact (Below.refl _ _).alloc (Nat.le_refl _) _
  have hZ0 : BxA W0 w.heap.size 54 (List.toArray ((Value.int .i64 0) :: (Value.int .i64 0) :: (Value.int .i64 0) :: (Value.int .u64 0) :: (Value.int .u64 0) :: (Value.int .u64 0) :: (Value.int .i64 0) :: (Value.int .u64 0) :: (Value.int .i64 0) :: (Value.int .i64 0) :: (Value.slice none 0 0) :: (Value.slice none 0 0) :: (Value.int .i64 0) :: (Value.int .i64 0) :: (Value.int .i64 0) :: (Value.int .i64 0) :: (Value.slice none 0 0) :: (Value.int .i64 0) :: (Value.int .i64 0) :: (Value.slice none 0 0) :: (Value.int .i64 0) :: (Value.slice none 0 0) :: (Value.slice none 0 0) :: (Value.int .i64 0) :: (Value.int .i64 0) :: (Value.int .i64 0) :: (Value.int .i64 0) :: (Value.int .i64 0) :: (Value.int .i64 0) :: (Value.int .i64 0) :: (Value.int .i64 0) :: (Value.int .i64 0) :: (Value.bool false) :: (Value.int .i64 0) :: (Value.int .i64 0) :: (Value.int .i64 0) :: (Value.int .i64 0) :: (Value.int .i64 0) :: (Value.int .i64 0) :: (Value.slice none 0 0) :: (Value.slice none 0 0) :: [])) := by rw [hW0]; exact BxA.new _ _ _
  have hs0 : W0.heap.size = w.heap.size + 1 := by rw [hW0]; simp
  have kP := peek_own W0 n r gb cr lo M a c ver (h.up hB0) (hC.up hB0)
  have hnr : n < w.heap.size ∧ r < w.heap.size := ⟨h.b.lt, World.block_lt_of_cell? _ _ h.row.2.2.1⟩
  have H := hide h
  have HB0 := hide hB0
  have HZ0 := hide hZ0
  have HS0 := hide hs0
  have HNR := hide hnr
  clear h hC hB0 hZ0 hs0 hnr
  go_enter Try.func19, Try.ntmps19
  go_wp2_with fail
  rw [← hW0]
  clear hW0
  go_at_call 23
  refine kP.mono ?_
  rintro e w1 ⟨M', he1, hC1, hb1⟩
  subst he1
  obtain ⟨ZZ, hzz, hzs⟩ : ∃ ZZ, BxA w1 w.heap.size 54 ZZ ∧ ZZ.size = 41 := ⟨_, BxA.up HZ0.out hb1, rfl⟩
  have HI : Hid ((Try.prog.info? 54).map (·.size) = some M'.size) := by apply hide; rw [hC1.sz.1]; exact Try.info_msg
  have H1 := hide hC1.sz.2
  have HSZ := hide hC1.sz.1
  have HZS : Hid (ZZ.size = M'.size) := hide (by rw [hzs, hC1.sz.1])
  have HA1 := hide hzz
  have HC1 := hide hC1
  have HBW1 : Hid (Below w.heap.size w w1) := hide (HB0.out.trans (hb1.mono HB0.out.size))
  clear hzz hzs hC1 hb1
  go_wp2_with (refine wpList_store_row rfl 54 (.tmp 6) (.tmp 12) rfl w1.heap.size M' rfl rfl 54 _ (BxA.new _ _ _) HI.out (by rw [HSZ.out]; rfl) H1.out ?_)
  obtain ⟨W, hW⟩ : ∃ W, W = (w1.alloc (.cells (List.toArray ((Value.int .i64 0) :: (Value.int .i64 0) :: (Value.int .i64 0) :: (Value.int .u64 0) :: (Value.int .u64 0) :: (Value.int .u64 0) :: (Value.int .i64 0) :: (Value.int .u64 0) :: (Value.int .i64 0) :: (Value.int .i64 0) :: (Value.slice none 0 0) :: (Value.slice none 0 0) :: (Value.int .i64 0) :: (Value.int .i64 0) :: (Value.int .i64 0) :: (Value.int .i64 0) :: (Value.slice none 0 0) :: (Value.int .i64 0) :: (Value.int .i64 0) :: (Value.slice none 0 0) :: (Value.int .i64 0) :: (Value.slice none 0 0) :: (Value.slice none 0 0) :: (Value.int .i64 0) :: (Value.int .i64 0) :: (Value.int .i64 0) :: (Value.int .i64 0) :: (Value.int .i64 0) :: (Value.int .i64 0) :: (Value.int .i64 0) :: (Value.int .i64 0) :: (Value.int .i64 0) :: (Value.bool false) :: (Value.int .i64 0) :: (Value.int .i64 0) :: (Value.int .i64 0) :: (Value.int .i64 0) :: (Value.int .i64 0) :: (Value.int .i64 0) :: (Value.slice none 0 0) :: (Value.slice none 0 0) :: [])) 54)).setRow w1.heap.size M' := ⟨_, rfl⟩
  have hWB : BxA W w1.heap.size 54 M' := by rw [hW]; exact setRow_heap _ _ _ M' _ _ (BxA.new _ _ _)
  have hlt := HA1.out.lt
  have hWA : BxA W w.heap.size 54 ZZ := by rw [hW]; exact BxA.setRow (bx_alloc2 HA1.out _) (by omega)
  have hGW : Below w1.heap.size w1 W := by rw [hW]; exact ((Grows.alloc _ _).setRow M' (Nat.le_refl _)).below
  have hGD : Below w1.heap.size w1 W.drew := ⟨hGW.os, hGW.tape, hGW.output, hGW.size, hGW.block⟩
  have hwd : Below w.heap.size w W.drew := HBW1.out.trans (hGD.mono HBW1.out.size)
  have HCW : Hid (Cn W.drew (w.heap.size + 1) M' a c ver) := by apply hide; rw [← HS0.out]; exact HC1.out.up hGD
  rw [← hW]
  clear hW
  have HWB := hide hWB
  have HWA := hide hWA
  have HWD := hide hwd
  have HKL := hide (lose_own W.drew n r gb cr M (H.out.up hwd))
  have HNB : Hid (¬ (w1.heap.size = n ∨ w1.heap.size = r)) := hide (by have := HNR.out; omega)
  have HNA : Hid (¬ (w.heap.size = n ∨ w.heap.size = r)) := hide (by have := HNR.out; omega)
  have HLT : Hid (n < w.heap.size + 1 ∧ r < w.heap.size + 1 ∧ w.heap.size < w.heap.size + 1) := hide (by have := HNR.out; omega)
  clear hWB hWA hGW hGD hwd hlt
  refine wp_region_any (by kernel_rfl) ?_
  refine wpAny_take (i := 1) (v := ?_) rfl (by kernel_rfl) (by kernel_rfl) (by kernel_rfl) (fun _ _ _ h => h) (Or.inl ⟨by rfl, ?hy5⟩) ?_
  case hy5 => intro w; go_simp; first | done | with_reducible rfl
  refine wpAny_take (i := 2) (v := ?_) rfl (by kernel_rfl) (by kernel_rfl) (by kernel_rfl) (fun _ _ _ h => h) (Or.inl ⟨by rfl, ?hy6⟩) ?_
  case hy6 => intro w; go_simp; first | done | with_reducible rfl
  refine wpAny_take (i := 3) (v := ?_) rfl (by kernel_rfl) (by kernel_rfl) (by kernel_rfl) (fun _ _ _ h => h) (Or.inl ⟨by rfl, ?hy7⟩) ?_
  case hy7 => intro w; go_simp; first | done | with_reducible rfl
  refine wpAny_take (i := 4) (v := ?_) rfl (by kernel_rfl) (by kernel_rfl) (by kernel_rfl) (fun _ _ _ h => h) (Or.inl ⟨by rfl, ?hy8⟩) ?_
  case hy8 => intro w; go_simp; first | done | with_reducible rfl
  refine wpAny_ready (rs := [0, 5]) (by kernel_rfl) (by simp) ?_
  refine AllReady.cons rfl (fun K hK => ?_) (AllReady.cons rfl (fun K hK => ?_) AllReady.nil)
  · refine step_loadR rfl 54 (.tmp 6) rfl w1.heap.size rfl 54 M' _ (show BxA W.drew _ _ _ from HWB.out) Try.underlying54 rfl HI.out ?_
    refine hK _ _ ?_
    clear hK K
    refine wpAny_ready (rs := [5]) (by kernel_rfl) (by simp) ?_
    refine AllReady.cons rfl (fun K hK => ?_) AllReady.nil
    go_simp
    go_at_call 15
    refine HKL.out.mono ?_
    rintro e w5 ⟨he5, fr5⟩
    subst he5
    have HB5 := hide (BxA.frm (show BxA W.drew _ _ _ from HWB.out) fr5 HNB.out)
    have HA5 := hide (BxA.frm (show BxA W.drew _ _ _ from HWA.out) fr5 HNA.out)
    have FR5 := hide fr5
    clear fr5
    refine hK _ _ ?_
    clear hK K
    refine wpAny_take (i := 6) (v := ?_) rfl (by kernel_rfl) (by kernel_rfl) (by kernel_rfl) (fun _ _ _ h => h) (Or.inl ⟨by rfl, ?hy1⟩) ?_
    case hy1 => intro w; go_simp; first | done | with_reducible rfl
    refine wpAny_ready (rs := [7]) (by kernel_rfl) (by simp) ?_
    refine AllReady.cons rfl (fun K hK => ?_) AllReady.nil
    refine step_storeR rfl 54 (.tmp 4) (.tmp 14) rfl w.heap.size M' rfl rfl 54 ZZ HA5.out HI.out HZS.out H1.out ?_
    refine hK _ _ ?_
    clear hK K
    refine wpAny_take (i := 8) (v := ?_) rfl (by kernel_rfl) (by kernel_rfl) (by kernel_rfl) (fun _ _ _ h => h) (Or.inl ⟨by rfl, ?hy2⟩) ?_
    case hy2 => intro w; go_simp; first | done | with_reducible rfl
    refine wpAny_done (by kernel_rfl) ?_ _
    go_wp2_with fail
    have f1 : Fr (fun i => i = n ∨ i = r ∨ i = w.heap.size) W.drew (w5.setRow w.heap.size M') := (fr_mono FR5.out fun i h => h.elim .inl fun h => .inr (.inl h)).trans (Fr.of_grown (F := fun i => i = n ∨ i = r ∨ i = w.heap.size) (setRow_grown' w5 w.heap.size M') fun j hj => .inl (.inr (.inr (by injection hj with hj; exact hj.symm)))) fun _ _ h => h
    refine bodyPost_ret (results_two rfl _ _ w.heap.size 54 M' _ (.bool true) rfl rfl (setRow_heap _ _ _ M' _ _ HA5.out) Try.underlying54 rfl HI.out) rfl ⟨M', rfl, HCW.out.fr (Nat.le_succ _) f1 fun i hi e => by have := HLT.out; omega, ?_⟩
    exact (Fr.of_below (F := fun i => i = n ∨ i = r) HWD.out).trans f1 fun i hi h => h.elim .inl fun h => h.elim .inr fun h => by omega
  · go_simp
    go_at_call 15
    refine HKL.out.mono ?_
    rintro e w5 ⟨he5, fr5⟩
    subst he5
    have HB5 := hide (BxA.frm (show BxA W.drew _ _ _ from HWB.out) fr5 HNB.out)
    have HA5 := hide (BxA.frm (show BxA W.drew _ _ _ from HWA.out) fr5 HNA.out)
    have FR5 := hide fr5
    clear fr5
    refine hK _ _ ?_
    clear hK K
    refine wpAny_take (i := 6) (v := ?_) rfl (by kernel_rfl) (by kernel_rfl) (by kernel_rfl) (fun _ _ _ h => h) (Or.inl ⟨by rfl, ?hy3⟩) ?_
    case hy3 => intro w; go_simp; first | done | with_reducible rfl
    refine wpAny_ready (rs := [0]) (by kernel_rfl) (by simp) ?_
    refine AllReady.cons rfl (fun K hK => ?_) AllReady.nil
    refine step_loadR rfl 54 (.tmp 6) rfl w1.heap.size rfl 54 M' _ HB5.out Try.underlying54 rfl HI.out ?_
    refine hK _ _ ?_
    clear hK K
    refine wpAny_ready (rs := [7]) (by kernel_rfl) (by simp) ?_
    refine AllReady.cons rfl (fun K hK => ?_) AllReady.nil
    refine step_storeR rfl 54 (.tmp 4) (.tmp 14) rfl w.heap.size M' rfl rfl 54 ZZ HA5.out HI.out HZS.out H1.out ?_
    refine hK _ _ ?_
    clear hK K
    refine wpAny_take (i := 8) (v := ?_) rfl (by kernel_rfl) (by kernel_rfl) (by kernel_rfl) (fun _ _ _ h => h) (Or.inl ⟨by rfl, ?hy4⟩) ?_
    case hy4 => intro w; go_simp; first | done | with_reducible rfl
    refine wpAny_done (by kernel_rfl) ?_ _
    go_wp2_with fail
    have f1 : Fr (fun i => i = n ∨ i = r ∨ i = w.heap.size) W.drew (w5.setRow w.heap.size M') := (fr_mono FR5.out fun i h => h.elim .inl fun h => .inr (.inl h)).trans (Fr.of_grown (F := fun i => i = n ∨ i = r ∨ i = w.heap.size) (setRow_grown' w5 w.heap.size M') fun j hj => .inl (.inr (.inr (by injection hj with hj; exact hj.symm)))) fun _ _ h => h
    refine bodyPost_ret (results_two rfl _ _ w.heap.size 54 M' _ (.bool true) rfl rfl (setRow_heap _ _ _ M' _ _ HA5.out) Try.underlying54 rfl HI.out) rfl ⟨M', rfl, HCW.out.fr (Nat.le_succ _) f1 fun i hi e => by have := HLT.out; omega, ?_⟩
    exact (Fr.of_below (F := fun i => i = n ∨ i = r) HWD.out).trans f1 fun i hi h => h.elim .inl fun h => h.elim .inr fun h => by omega
end Go.Proofs.Ytnkllgpibmofiaa
