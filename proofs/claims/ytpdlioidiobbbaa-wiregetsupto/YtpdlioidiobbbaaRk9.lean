/- The reference's Get. -/
import Derived.Test.YtpdlioidiobbbaaRk8a
import Derived.Test.YtpdlioidiobbbaaRk8b
import Derived.Test.YtpdlioidiobbbaaRk8c
import Derived.Test.YtpdlioidiobbbaaRk8d
import Derived.Test.YtpdlioidiobbbaaRk8e
import Derived.Test.YtpdlioidiobbbaaRka
import Derived.Test.YtpdlioidiobbbaaRgb
namespace Go.Proofs.Ytpdlioidiobbbaa
open Go.RowKit Go.Sort

set_option maxRecDepth 100000 in
set_option maxHeartbeats 12800000 in
theorem kget (w : World) (v : Value) (l : Bs) (hlb : l.length ≤ 1048576) (hr : Reads w v l) : Calls Try.prog 12 #[v] w (GetP l w) := by
  obtain ⟨i0, hi0, hz0, hz1, hz2⟩ := info_parts Try.inf_i64
  obtain ⟨j0, hj0, jz0, jz1, jz2⟩ := info_parts Try.inf_seg
  have mixed : Try.prog.follows .mixedOrders = true := by kernel_rfl
  have hrb := hr.b
  obtain ⟨ao, cap, rfl, -⟩ := id hr
  obtain ⟨V, hV⟩ : ∃ V, V = ((w.alloc (.cells #[.int .i64 0, .int .i64 0, .int .i64 0, .int .u64 0, .int .u64 0, .int .u64 0, .int .i64 0, .int .u64 0, .int .i64 0, .int .i64 0, .slice none 0 0, .slice none 0 0, .int .i64 0, .int .i64 0, .int .i64 0, .int .i64 0, .slice none 0 0, .int .i64 0, .int .i64 0, .slice none 0 0, .int .i64 0, .slice none 0 0, .slice none 0 0, .int .i64 0, .int .i64 0, .int .i64 0, .int .i64 0, .int .i64 0, .int .i64 0, .int .i64 0, .int .i64 0, .int .i64 0, .bool false, .int .i64 0, .int .i64 0, .int .i64 0, .int .i64 0, .int .i64 0, .int .i64 0, .slice none 0 0, .slice none 0 0] 46)).alloc (.cells #[.slice ao l.length cap, .int .i64 0, .int .i64 0] 104)).alloc (.cells #[.int .i64 0, .int .i64 0, .int .i64 0, .int .u64 0, .int .u64 0, .int .u64 0, .int .i64 0, .int .u64 0, .int .i64 0, .int .i64 0, .slice none 0 0, .slice none 0 0, .int .i64 0, .int .i64 0, .int .i64 0, .int .i64 0, .slice none 0 0, .int .i64 0, .int .i64 0, .slice none 0 0, .int .i64 0, .slice none 0 0, .slice none 0 0, .int .i64 0, .int .i64 0, .int .i64 0, .int .i64 0, .int .i64 0, .int .i64 0, .int .i64 0, .int .i64 0, .int .i64 0, .bool false, .int .i64 0, .int .i64 0, .int .i64 0, .int .i64 0, .int .i64 0, .int .i64 0, .slice none 0 0, .slice none 0 0] 46) := ⟨_, rfl⟩
  have zV : V.heap.size = w.heap.size + 1 + 1 + 1 := by rw [hV]; simp
  have bV : Below w.heap.size w V := by rw [hV]; exact (((Below.refl _ _).alloc (Nat.le_refl _) _).alloc (by simp) _).alloc (by simp; omega) _
  have xo : BxA V w.heap.size 46 zmsg := by
    rw [hV]
    unfold BxA
    rw [Below.heap_alloc _ _ _ (by simp; omega), Below.heap_alloc _ _ _ (by simp)]
    exact BxA.new _ _ _
  have xk : KS V (w.heap.size + 1) (.slice ao l.length cap) 0 0 := by
    rw [hV]
    unfold KS
    rw [Below.heap_alloc _ _ _ (by simp)]
    have := BxA.new (w.alloc (.cells #[.int .i64 0, .int .i64 0, .int .i64 0, .int .u64 0, .int .u64 0, .int .u64 0, .int .i64 0, .int .u64 0, .int .i64 0, .int .i64 0, .slice none 0 0, .slice none 0 0, .int .i64 0, .int .i64 0, .int .i64 0, .int .i64 0, .slice none 0 0, .int .i64 0, .int .i64 0, .slice none 0 0, .int .i64 0, .slice none 0 0, .slice none 0 0, .int .i64 0, .int .i64 0, .int .i64 0, .int .i64 0, .int .i64 0, .int .i64 0, .int .i64 0, .int .i64 0, .int .i64 0, .bool false, .int .i64 0, .int .i64 0, .int .i64 0, .int .i64 0, .int .i64 0, .int .i64 0, .slice none 0 0, .slice none 0 0] 46)) 104 #[.slice ao l.length cap, .int .i64 0, .int .i64 0]
    unfold BxA at this
    rw [show (w.alloc (.cells #[.int .i64 0, .int .i64 0, .int .i64 0, .int .u64 0, .int .u64 0, .int .u64 0, .int .i64 0, .int .u64 0, .int .i64 0, .int .i64 0, .slice none 0 0, .slice none 0 0, .int .i64 0, .int .i64 0, .int .i64 0, .int .i64 0, .slice none 0 0, .int .i64 0, .int .i64 0, .slice none 0 0, .int .i64 0, .slice none 0 0, .slice none 0 0, .int .i64 0, .int .i64 0, .int .i64 0, .int .i64 0, .int .i64 0, .int .i64 0, .int .i64 0, .int .i64 0, .int .i64 0, .bool false, .int .i64 0, .int .i64 0, .int .i64 0, .int .i64 0, .int .i64 0, .int .i64 0, .slice none 0 0, .slice none 0 0] 46)).heap.size = w.heap.size + 1 by simp] at this
    exact this
  have xm : BxA V (w.heap.size + 1 + 1) 46 zmsg := by
    rw [hV]
    have := BxA.new ((w.alloc (.cells #[.int .i64 0, .int .i64 0, .int .i64 0, .int .u64 0, .int .u64 0, .int .u64 0, .int .i64 0, .int .u64 0, .int .i64 0, .int .i64 0, .slice none 0 0, .slice none 0 0, .int .i64 0, .int .i64 0, .int .i64 0, .int .i64 0, .slice none 0 0, .int .i64 0, .int .i64 0, .slice none 0 0, .int .i64 0, .slice none 0 0, .slice none 0 0, .int .i64 0, .int .i64 0, .int .i64 0, .int .i64 0, .int .i64 0, .int .i64 0, .int .i64 0, .int .i64 0, .int .i64 0, .bool false, .int .i64 0, .int .i64 0, .int .i64 0, .int .i64 0, .int .i64 0, .int .i64 0, .slice none 0 0, .slice none 0 0] 46)).alloc (.cells #[.slice ao l.length cap, .int .i64 0, .int .i64 0] 104)) 46 #[.int .i64 0, .int .i64 0, .int .i64 0, .int .u64 0, .int .u64 0, .int .u64 0, .int .i64 0, .int .u64 0, .int .i64 0, .int .i64 0, .slice none 0 0, .slice none 0 0, .int .i64 0, .int .i64 0, .int .i64 0, .int .i64 0, .slice none 0 0, .int .i64 0, .int .i64 0, .slice none 0 0, .int .i64 0, .slice none 0 0, .slice none 0 0, .int .i64 0, .int .i64 0, .int .i64 0, .int .i64 0, .int .i64 0, .int .i64 0, .int .i64 0, .int .i64 0, .int .i64 0, .bool false, .int .i64 0, .int .i64 0, .int .i64 0, .int .i64 0, .int .i64 0, .int .i64 0, .slice none 0 0, .slice none 0 0]
    rw [show ((w.alloc (.cells #[.int .i64 0, .int .i64 0, .int .i64 0, .int .u64 0, .int .u64 0, .int .u64 0, .int .i64 0, .int .u64 0, .int .i64 0, .int .i64 0, .slice none 0 0, .slice none 0 0, .int .i64 0, .int .i64 0, .int .i64 0, .int .i64 0, .slice none 0 0, .int .i64 0, .int .i64 0, .slice none 0 0, .int .i64 0, .slice none 0 0, .slice none 0 0, .int .i64 0, .int .i64 0, .int .i64 0, .int .i64 0, .int .i64 0, .int .i64 0, .int .i64 0, .int .i64 0, .int .i64 0, .bool false, .int .i64 0, .int .i64 0, .int .i64 0, .int .i64 0, .int .i64 0, .int .i64 0, .slice none 0 0, .slice none 0 0] 46)).alloc (.cells #[.slice ao l.length cap, .int .i64 0, .int .i64 0] 104)).heap.size = w.heap.size + 1 + 1 by simp] at this
    exact this
  have hP : RP w.heap.size (w.heap.size + 1) (.slice ao l.length cap) l V 0 0 := ⟨Nat.le_succ _, xk, hrb.keep bV, Nat.zero_le _⟩
  have n11 : V.rangeAt (w.heap.size + 1 + 1) 11 [.slice none 0 0] := fun j u hu => by
    rcases j with _ | j
    · cases hu; exact BxA.cell xm 11 _ rfl
    · simp at hu
  have n39 : V.rangeAt (w.heap.size + 1 + 1) 39 [.slice none 0 0] := fun j u hu => by
    rcases j with _ | j
    · cases hu; exact BxA.cell xm 39 _ rfl
    · simp at hu
  have hR2 : (w.heap.size + 1) < V.heap.size := by omega
  have hm2 : (w.heap.size + 1 + 1) < V.heap.size := by omega
  have hKm : (w.heap.size + 1) < (w.heap.size + 1 + 1) := by omega
  have ht : V.there (w.heap.size + 1 + 1) 0 41 := there_box xm
  have H : Hid (KG0 w.heap.size (w.heap.size + 1) (.slice ao l.length cap) l (w.heap.size + 1 + 1) V V) := ⟨n11, n39, ⟨hP, rfl, rfl, rfl, Nat.le_refl _, fun _ _ _ _ => rfl, ht, fun _ => by show [] = rd l 0 0; simp [rd]⟩⟩
  have HO : Hid (BxA V w.heap.size 46 zmsg) := xo
  have HBW : Hid (Below w.heap.size w V) := bV
  have HRB : Hid (ReadsB w.heap.size w (.slice ao l.length cap) l) := hrb
  have HY0 : Hid (V = _) := hV
  have HZV : Hid (V.heap.size = w.heap.size + 1 + 1 + 1) := zV
  clear hV zV bV xo xk xm hP n11 n39 ht hr hrb
  go_enter Try.func12, Try.ntmps12
  go_upto_region 3 with fail
  rw [← HY0.out]
  clear HY0
  have hps := kg0_ps H.out
  have kk := kwhole w.heap.size (w.heap.size + 1) (.slice ao l.length cap) l V _ _ hps.1
  have HPS : Hid _ := hps
  clear hps
  go_wp2_with fail
  refine kk.mono ?_
  rintro er w1 ⟨KI, rfl, pr, G⟩
  have hps := HPS.out
  have ht1 : w1.there (w.heap.size + 1 + 1) 0 41 := there_block (G.g.block (w.heap.size + 1 + 1) (Nat.lt_of_lt_of_le hm2 hps.2.2) (fun e => by simp only [Option.some.injEq] at e; omega)) hps.2.1
  obtain ⟨u0, hu0⟩ := there_cell ht1 0 (by decide)
  have hf0 := there_free ht1 0 (by decide)
  have hk := ks1 hR2 hm2 hKm H.out pr G
  obtain ⟨Y2, hY2⟩ : ∃ Y2, Y2 = w1.setCell ⟨(w.heap.size + 1 + 1), 0, none⟩ (.int .i64 KI) := ⟨_, rfl⟩
  have H2 : Hid (KG1 w.heap.size (w.heap.size + 1) (.slice ao l.length cap) l (w.heap.size + 1 + 1) V Y2) := by apply hide; rw [hY2]; exact hk.1
  have HO2 : Hid (BxA Y2 w.heap.size 46 zmsg) := by apply hide; rw [hY2]; exact hk.2.box HO.out (by omega) (by omega)
  have HY2 : Hid (Y2 = _) := hY2
  clear hk hY2 kk ht1 hps HPS pr G H HO
  go_upto_region 4 with fail
  clear hu0 hf0
  rw [← HY2.out]
  have HY : Hid (Y2 = Y2) := rfl
  have H := H2
  have HO := HO2
  clear H2 HO2 HY2
  rename World => Y
  have hps := kg1_ps H.out
  have kk := kwhole w.heap.size (w.heap.size + 1) (.slice ao l.length cap) l Y _ _ hps.1
  have HPS : Hid _ := hps
  clear hps
  go_wp2_with fail
  refine kk.mono ?_
  rintro er w1 ⟨FR, rfl, pr, G⟩
  have hps := HPS.out
  have ht1 : w1.there (w.heap.size + 1 + 1) 0 41 := there_block (G.g.block (w.heap.size + 1 + 1) (Nat.lt_of_lt_of_le hm2 hps.2.2) (fun e => by simp only [Option.some.injEq] at e; omega)) hps.2.1
  obtain ⟨u0, hu0⟩ := there_cell ht1 1 (by decide)
  have hf0 := there_free ht1 1 (by decide)
  have hk := ks2 hR2 hm2 hKm H.out pr G
  obtain ⟨Y2, hY2⟩ : ∃ Y2, Y2 = w1.setCell ⟨(w.heap.size + 1 + 1), 1, none⟩ (.int .i64 FR) := ⟨_, rfl⟩
  have H2 : Hid (KG2 w.heap.size (w.heap.size + 1) (.slice ao l.length cap) l (w.heap.size + 1 + 1) V Y2) := by apply hide; rw [hY2]; exact hk.1
  have HO2 : Hid (BxA Y2 w.heap.size 46 zmsg) := by apply hide; rw [hY2]; exact hk.2.box HO.out (by omega) (by omega)
  have HY2 : Hid (Y2 = _) := hY2
  clear hk hY2 kk ht1 hps HPS pr G HY H HO
  go_upto_region 5 with fail
  clear hu0 hf0
  rw [← HY2.out]
  have HY : Hid (Y2 = Y2) := rfl
  have H := H2
  have HO := HO2
  clear H2 HO2 HY2
  rename World => Y
  have hps := kg2_ps H.out
  have kk := kwhole w.heap.size (w.heap.size + 1) (.slice ao l.length cap) l Y _ _ hps.1
  have HPS : Hid _ := hps
  clear hps
  go_wp2_with fail
  refine kk.mono ?_
  rintro er w1 ⟨TO, rfl, pr, G⟩
  have hps := HPS.out
  have ht1 : w1.there (w.heap.size + 1 + 1) 0 41 := there_block (G.g.block (w.heap.size + 1 + 1) (Nat.lt_of_lt_of_le hm2 hps.2.2) (fun e => by simp only [Option.some.injEq] at e; omega)) hps.2.1
  obtain ⟨u0, hu0⟩ := there_cell ht1 2 (by decide)
  have hf0 := there_free ht1 2 (by decide)
  have hk := ks3 hR2 hm2 hKm H.out pr G
  obtain ⟨Y2, hY2⟩ : ∃ Y2, Y2 = w1.setCell ⟨(w.heap.size + 1 + 1), 2, none⟩ (.int .i64 TO) := ⟨_, rfl⟩
  have H2 : Hid (KG3 w.heap.size (w.heap.size + 1) (.slice ao l.length cap) l (w.heap.size + 1 + 1) V Y2) := by apply hide; rw [hY2]; exact hk.1
  have HO2 : Hid (BxA Y2 w.heap.size 46 zmsg) := by apply hide; rw [hY2]; exact hk.2.box HO.out (by omega) (by omega)
  have HY2 : Hid (Y2 = _) := hY2
  clear hk hY2 kk ht1 hps HPS pr G HY H HO
  go_upto_region 6 with fail
  clear hu0 hf0
  rw [← HY2.out]
  have HY : Hid (Y2 = Y2) := rfl
  have H := H2
  have HO := HO2
  clear H2 HO2 HY2
  rename World => Y
  have hps := kg3_ps H.out
  have kk := kuint w.heap.size (w.heap.size + 1) (.slice ao l.length cap) l Y _ _ hps.1
  have HPS : Hid _ := hps
  clear hps
  go_wp2_with fail
  refine kk.mono ?_
  rintro er w1 ⟨ID, rfl, pr, G⟩
  have hps := HPS.out
  have ht1 : w1.there (w.heap.size + 1 + 1) 0 41 := there_block (G.g.block (w.heap.size + 1 + 1) (Nat.lt_of_lt_of_le hm2 hps.2.2) (fun e => by simp only [Option.some.injEq] at e; omega)) hps.2.1
  obtain ⟨u0, hu0⟩ := there_cell ht1 3 (by decide)
  have hf0 := there_free ht1 3 (by decide)
  have hk := ks4 hR2 hm2 hKm H.out pr G
  obtain ⟨Y2, hY2⟩ : ∃ Y2, Y2 = w1.setCell ⟨(w.heap.size + 1 + 1), 3, none⟩ (.int .u64 (ID : Int)) := ⟨_, rfl⟩
  have H2 : Hid (KG4 w.heap.size (w.heap.size + 1) (.slice ao l.length cap) l (w.heap.size + 1 + 1) V Y2) := by apply hide; rw [hY2]; exact hk.1
  have HO2 : Hid (BxA Y2 w.heap.size 46 zmsg) := by apply hide; rw [hY2]; exact hk.2.box HO.out (by omega) (by omega)
  have HY2 : Hid (Y2 = _) := hY2
  clear hk hY2 kk ht1 hps HPS pr G HY H HO
  go_upto_region 7 with fail
  clear hu0 hf0
  rw [← HY2.out]
  have HY : Hid (Y2 = Y2) := rfl
  have H := H2
  have HO := HO2
  clear H2 HO2 HY2
  rename World => Y
  have hps := kg4_ps H.out
  have kk := kuint w.heap.size (w.heap.size + 1) (.slice ao l.length cap) l Y _ _ hps.1
  have HPS : Hid _ := hps
  clear hps
  go_wp2_with fail
  refine kk.mono ?_
  rintro er w1 ⟨AS, rfl, pr, G⟩
  have hps := HPS.out
  have ht1 : w1.there (w.heap.size + 1 + 1) 0 41 := there_block (G.g.block (w.heap.size + 1 + 1) (Nat.lt_of_lt_of_le hm2 hps.2.2) (fun e => by simp only [Option.some.injEq] at e; omega)) hps.2.1
  obtain ⟨u0, hu0⟩ := there_cell ht1 4 (by decide)
  have hf0 := there_free ht1 4 (by decide)
  have hk := ks5 hR2 hm2 hKm H.out pr G
  obtain ⟨Y2, hY2⟩ : ∃ Y2, Y2 = w1.setCell ⟨(w.heap.size + 1 + 1), 4, none⟩ (.int .u64 (AS : Int)) := ⟨_, rfl⟩
  have H2 : Hid (KG5 w.heap.size (w.heap.size + 1) (.slice ao l.length cap) l (w.heap.size + 1 + 1) V Y2) := by apply hide; rw [hY2]; exact hk.1
  have HO2 : Hid (BxA Y2 w.heap.size 46 zmsg) := by apply hide; rw [hY2]; exact hk.2.box HO.out (by omega) (by omega)
  have HY2 : Hid (Y2 = _) := hY2
  clear hk hY2 kk ht1 hps HPS pr G HY H HO
  go_upto_region 8 with fail
  clear hu0 hf0
  rw [← HY2.out]
  have HY : Hid (Y2 = Y2) := rfl
  have H := H2
  have HO := HO2
  clear H2 HO2 HY2
  rename World => Y
  have hps := kg5_ps H.out
  have kk := kuint w.heap.size (w.heap.size + 1) (.slice ao l.length cap) l Y _ _ hps.1
  have HPS : Hid _ := hps
  clear hps
  go_wp2_with fail
  refine kk.mono ?_
  rintro er w1 ⟨OF, rfl, pr, G⟩
  have hps := HPS.out
  have ht1 : w1.there (w.heap.size + 1 + 1) 0 41 := there_block (G.g.block (w.heap.size + 1 + 1) (Nat.lt_of_lt_of_le hm2 hps.2.2) (fun e => by simp only [Option.some.injEq] at e; omega)) hps.2.1
  obtain ⟨u0, hu0⟩ := there_cell ht1 5 (by decide)
  have hf0 := there_free ht1 5 (by decide)
  have hk := ks6 hR2 hm2 hKm H.out pr G
  obtain ⟨Y2, hY2⟩ : ∃ Y2, Y2 = w1.setCell ⟨(w.heap.size + 1 + 1), 5, none⟩ (.int .u64 (OF : Int)) := ⟨_, rfl⟩
  have H2 : Hid (KG6 w.heap.size (w.heap.size + 1) (.slice ao l.length cap) l (w.heap.size + 1 + 1) V Y2) := by apply hide; rw [hY2]; exact hk.1
  have HO2 : Hid (BxA Y2 w.heap.size 46 zmsg) := by apply hide; rw [hY2]; exact hk.2.box HO.out (by omega) (by omega)
  have HY2 : Hid (Y2 = _) := hY2
  clear hk hY2 kk ht1 hps HPS pr G HY H HO
  go_upto_region 9 with fail
  clear hu0 hf0
  rw [← HY2.out]
  have HY : Hid (Y2 = Y2) := rfl
  have H := H2
  have HO := HO2
  clear H2 HO2 HY2
  rename World => Y
  have hps := kg6_ps H.out
  have kk := kwhole w.heap.size (w.heap.size + 1) (.slice ao l.length cap) l Y _ _ hps.1
  have HPS : Hid _ := hps
  clear hps
  go_wp2_with fail
  refine kk.mono ?_
  rintro er w1 ⟨TE, rfl, pr, G⟩
  have hps := HPS.out
  have ht1 : w1.there (w.heap.size + 1 + 1) 0 41 := there_block (G.g.block (w.heap.size + 1 + 1) (Nat.lt_of_lt_of_le hm2 hps.2.2) (fun e => by simp only [Option.some.injEq] at e; omega)) hps.2.1
  obtain ⟨u0, hu0⟩ := there_cell ht1 6 (by decide)
  have hf0 := there_free ht1 6 (by decide)
  have hk := ks7 hR2 hm2 hKm H.out pr G
  obtain ⟨Y2, hY2⟩ : ∃ Y2, Y2 = w1.setCell ⟨(w.heap.size + 1 + 1), 6, none⟩ (.int .i64 TE) := ⟨_, rfl⟩
  have H2 : Hid (KG7 w.heap.size (w.heap.size + 1) (.slice ao l.length cap) l (w.heap.size + 1 + 1) V Y2) := by apply hide; rw [hY2]; exact hk.1
  have HO2 : Hid (BxA Y2 w.heap.size 46 zmsg) := by apply hide; rw [hY2]; exact hk.2.box HO.out (by omega) (by omega)
  have HY2 : Hid (Y2 = _) := hY2
  clear hk hY2 kk ht1 hps HPS pr G HY H HO
  go_upto_region 10 with fail
  clear hu0 hf0
  rw [← HY2.out]
  have HY : Hid (Y2 = Y2) := rfl
  have H := H2
  have HO := HO2
  clear H2 HO2 HY2
  rename World => Y
  have hps := kg7_ps H.out
  have kk := kuint w.heap.size (w.heap.size + 1) (.slice ao l.length cap) l Y _ _ hps.1
  have HPS : Hid _ := hps
  clear hps
  go_wp2_with fail
  refine kk.mono ?_
  rintro er w1 ⟨CN, rfl, pr, G⟩
  have hps := HPS.out
  have ht1 : w1.there (w.heap.size + 1 + 1) 0 41 := there_block (G.g.block (w.heap.size + 1 + 1) (Nat.lt_of_lt_of_le hm2 hps.2.2) (fun e => by simp only [Option.some.injEq] at e; omega)) hps.2.1
  obtain ⟨u0, hu0⟩ := there_cell ht1 7 (by decide)
  have hf0 := there_free ht1 7 (by decide)
  have hk := ks8 hR2 hm2 hKm H.out pr G
  obtain ⟨Y2, hY2⟩ : ∃ Y2, Y2 = w1.setCell ⟨(w.heap.size + 1 + 1), 7, none⟩ (.int .u64 (CN : Int)) := ⟨_, rfl⟩
  have H2 : Hid (KG8 w.heap.size (w.heap.size + 1) (.slice ao l.length cap) l (w.heap.size + 1 + 1) V Y2) := by apply hide; rw [hY2]; exact hk.1
  have HO2 : Hid (BxA Y2 w.heap.size 46 zmsg) := by apply hide; rw [hY2]; exact hk.2.box HO.out (by omega) (by omega)
  have HY2 : Hid (Y2 = _) := hY2
  clear hk hY2 kk ht1 hps HPS pr G HY H HO
  go_upto_region 11 with fail
  clear hu0 hf0
  rw [← HY2.out]
  have HY : Hid (Y2 = Y2) := rfl
  have H := H2
  have HO := HO2
  clear H2 HO2 HY2
  rename World => Y
  have hps := kg8_ps H.out
  have kk := kint w.heap.size (w.heap.size + 1) (.slice ao l.length cap) l Y _ _ hps.1
  have HPS : Hid _ := hps
  clear hps
  go_wp2_with fail
  refine kk.mono ?_
  rintro er w1 ⟨CO, rfl, pr, G⟩
  have hps := HPS.out
  have ht1 : w1.there (w.heap.size + 1 + 1) 0 41 := there_block (G.g.block (w.heap.size + 1 + 1) (Nat.lt_of_lt_of_le hm2 hps.2.2) (fun e => by simp only [Option.some.injEq] at e; omega)) hps.2.1
  obtain ⟨u0, hu0⟩ := there_cell ht1 8 (by decide)
  have hf0 := there_free ht1 8 (by decide)
  have hk := ks9 hR2 hm2 hKm H.out pr G
  obtain ⟨Y2, hY2⟩ : ∃ Y2, Y2 = w1.setCell ⟨(w.heap.size + 1 + 1), 8, none⟩ (.int .i64 CO) := ⟨_, rfl⟩
  have H2 : Hid (KG9 w.heap.size (w.heap.size + 1) (.slice ao l.length cap) l (w.heap.size + 1 + 1) V Y2) := by apply hide; rw [hY2]; exact hk.1
  have HO2 : Hid (BxA Y2 w.heap.size 46 zmsg) := by apply hide; rw [hY2]; exact hk.2.box HO.out (by omega) (by omega)
  have HY2 : Hid (Y2 = _) := hY2
  clear hk hY2 kk ht1 hps HPS pr G HY H HO
  go_upto_region 12 with fail
  clear hu0 hf0
  rw [← HY2.out]
  have HY : Hid (Y2 = Y2) := rfl
  have H := H2
  have HO := HO2
  clear H2 HO2 HY2
  rename World => Y
  have hps := kg9_ps H.out
  have kk := kint w.heap.size (w.heap.size + 1) (.slice ao l.length cap) l Y _ _ hps.1
  have HPS : Hid _ := hps
  clear hps
  go_wp2_with fail
  refine kk.mono ?_
  rintro er w1 ⟨FT, rfl, pr, G⟩
  have hps := HPS.out
  have ht1 : w1.there (w.heap.size + 1 + 1) 0 41 := there_block (G.g.block (w.heap.size + 1 + 1) (Nat.lt_of_lt_of_le hm2 hps.2.2) (fun e => by simp only [Option.some.injEq] at e; omega)) hps.2.1
  obtain ⟨u0, hu0⟩ := there_cell ht1 9 (by decide)
  have hf0 := there_free ht1 9 (by decide)
  have hk := ks10 hR2 hm2 hKm H.out pr G
  obtain ⟨Y2, hY2⟩ : ∃ Y2, Y2 = w1.setCell ⟨(w.heap.size + 1 + 1), 9, none⟩ (.int .i64 FT) := ⟨_, rfl⟩
  have H2 : Hid (KG10 w.heap.size (w.heap.size + 1) (.slice ao l.length cap) l (w.heap.size + 1 + 1) V Y2) := by apply hide; rw [hY2]; exact hk.1
  have HO2 : Hid (BxA Y2 w.heap.size 46 zmsg) := by apply hide; rw [hY2]; exact hk.2.box HO.out (by omega) (by omega)
  have HY2 : Hid (Y2 = _) := hY2
  clear hk hY2 kk ht1 hps HPS pr G HY H HO
  go_upto_region 13 with fail
  clear hu0 hf0
  rw [← HY2.out]
  have HY : Hid (Y2 = Y2) := rfl
  have H := H2
  have HO := HO2
  clear H2 HO2 HY2
  rename World => Y
  have hps := kg10_ps H.out
  have kk := ktexts w.heap.size (w.heap.size + 1) (.slice ao l.length cap) l Y _ _ hlb hps.1
  have HPS : Hid _ := hps
  clear hps
  go_wp2_with fail
  refine kk.mono ?_
  rintro er w1 ⟨tv, ts, rfl, ow, pr, G⟩
  obtain ⟨fa, fn, fc, rfl⟩ := own_sl ow
  have wn := (own_win ow).imp fun _ r => Fi.RdsK.of_own r
  have hps := HPS.out
  have ht1 : w1.there (w.heap.size + 1 + 1) 0 41 := there_block (G.g.block (w.heap.size + 1 + 1) (Nat.lt_of_lt_of_le hm2 hps.2.2) (fun e => by simp only [Option.some.injEq] at e; omega)) hps.2.1
  obtain ⟨u0, hu0⟩ := there_cell ht1 10 (by decide)
  have hf0 := there_free ht1 10 (by decide)
  have hk := ks11 hR2 hm2 hKm H.out pr wn G
  obtain ⟨Y2, hY2⟩ : ∃ Y2, Y2 = w1.setCell ⟨(w.heap.size + 1 + 1), 10, none⟩ (.slice fa fn fc) := ⟨_, rfl⟩
  have H2 : Hid (KG11 w.heap.size (w.heap.size + 1) (.slice ao l.length cap) l (w.heap.size + 1 + 1) V Y2) := by apply hide; rw [hY2]; exact hk.1
  have HO2 : Hid (BxA Y2 w.heap.size 46 zmsg) := by apply hide; rw [hY2]; exact hk.2.box HO.out (by omega) (by omega)
  have HY2 : Hid (Y2 = _) := hY2
  clear hk hY2 kk ht1 hps HPS pr G HY H HO wn ow
  go_upto_region 14 with fail
  clear hu0 hf0
  rw [← HY2.out]
  have HY : Hid (Y2 = Y2) := rfl
  have H := H2
  have HO := HO2
  clear H2 HO2 HY2
  rename World => Y
  have hps := kg11_ps H.out
  have hnil := kg11_nil H.out
  obtain ⟨s0, hs0⟩ : ∃ s : Sg2, s = D11 l (0, 0) := ⟨_, rfl⟩
  have ps0 : RP w.heap.size (w.heap.size + 1) (.slice ao l.length cap) l Y s0.1 s0.2 := by rw [hs0]; exact hps.1
  have kc := kcount w.heap.size (w.heap.size + 1) (.slice ao l.length cap) l Y s0.1 s0.2 hlb ps0
  obtain ⟨n, hn⟩ : ∃ n, n = (cS l s0.1 s0.2 1).1 := ⟨_, rfl⟩
  obtain ⟨s1, hs1⟩ : ∃ s : Sg2, s = (cS l s0.1 s0.2 1).2 := ⟨_, rfl⟩
  have hnl : n ≤ 1048576 := by rw [hn]; exact Nat.le_trans (c_le l s0.1 s0.2 ps0.le) hlb
  have e1' : (cS l s0.1 s0.2 1).2.1 = s1.1 := by rw [hs1]
  have e2' : (cS l s0.1 s0.2 1).2.2 = s1.2 := by rw [hs1]
  rw [← hn, e1', e2'] at kc
  have HN : Hid (n = (cS l s0.1 s0.2 1).1 ∧ s1 = (cS l s0.1 s0.2 1).2) := ⟨hn, hs1⟩
  have HS0 : Hid (s0 = D11 l (0, 0)) := hs0
  have HP0 : Hid (RP w.heap.size (w.heap.size + 1) (.slice ao l.length cap) l Y s0.1 s0.2) := ps0
  have hmY : (w.heap.size + 1 + 1) < Y.heap.size := Nat.lt_of_lt_of_le hm2 hps.2.2
  have HPN : Hid _ := And.intro hps hnil
  clear hn hs1 e1' e2' ps0 hs0 hps hnil
  go_wp2_with fail
  refine kc.mono ?_
  rintro er w4 ⟨rfl, hP4, g4⟩
  have HP1 : Hid (RP w.heap.size (w.heap.size + 1) (.slice ao l.length cap) l w4 s1.1 s1.2) := hP4
  have HL4 : Hid (LL (w.heap.size + 1) (w.heap.size + 1 + 1) Y w4 11 (.slice none 0 0)) := LL.start g4 hmY hKm HPN.out.1.2.1 HPN.out.2
  clear hP4 g4 kc HPN
  go_wp2_with fail
  go_loopg [7] n (fun kx vi wr => ∃ (i : Nat) (ms : List Int) (ga : Option Addr) (gn gc : Nat), vi = .int .i64 (i : Int) ∧ i ≤ n ∧ n - i ≤ kx ∧ Hid (ms.length = i) ∧ Hid (LL (w.heap.size + 1) (w.heap.size + 1 + 1) Y wr 11 (.slice ga gn gc)) ∧ Hid (wr.ownsRow Y.heap.size 2 1 (.slice ga gn gc) i (ms.flatMap cl_i64)) ∧ Hid (∀ x ∈ ms, In64 x) ∧ Hid (RP w.heap.size (w.heap.size + 1) (.slice ao l.length cap) l wr (skN (skU l) i s1).1 (skN (skU l) i s1).2) ∧ Hid (s1.2 = 0 → (skN (skU l) i s1).2 = 0 → ms.flatMap ei = rd l s1.1 (skN (skU l) i s1).1))
  case atStart => exact ⟨0, [], none, 0, 0, rfl, by omega, Nat.le_refl _, rfl, HL4, ⟨rfl, .inl ⟨rfl, rfl⟩⟩, (fun _ h => by cases h), HP1, fun _ _ => by show _ = rd l s1.1 s1.1; simp [rd]⟩
  case round =>
    obtain ⟨i, ms, ga, gn, gc, rfl, hi, hkx, HXL, HLL, HOW, HOK, HP, HBB⟩ := hrel
    clear HL4
    obtain ⟨E, hE⟩ : ∃ E, E = (skN (skU l) i s1).2 := ⟨_, rfl⟩
    have HEE : Hid (E = (skN (skU l) i s1).2) := hE
    have hks := HP.out.ks
    rw [← hE] at hks
    obtain ⟨c0, c1, c2, cf⟩ := hks.cells
    clear hks hE cf c0 c1
    by_cases hlt : i < n
    · have hltz : (i : Int) < (n : Int) := by omega
      by_cases he : E = 0
      · subst he
        obtain ⟨q, hq⟩ : ∃ q, q = (skN (skU l) i s1).1 := ⟨_, rfl⟩
        have HQ : Hid ((q, 0) = skN (skU l) i s1) := Prod.ext hq HEE.out
        have hql : ((q, 0) : Sg2).1 ≤ l.length := by rw [hq]; exact HP.out.le
        have rq : RP w.heap.size (w.heap.size + 1) (.slice ao l.length cap) l wr q 0 := by have := HP.out; rw [← hq, ← HEE.out] at this; exact this
        have hSig0 : (false = true → false = true) ∧ (false = false → wr.drew.heap[(w.heap.size + 1 + 1)]? = wr.heap[(w.heap.size + 1 + 1)]?) := ⟨fun h => h, fun _ => rfl⟩
        have hS00 : GK w.heap.size (w.heap.size + 1) (.slice ao l.length cap) l wr wr.drew (q, 0) (fun s => s) [] := GK.id ⟨rq.b, rq.ks, rq.rd, rq.le⟩ ⟨rfl, rfl, rfl, Nat.le_refl _, fun _ _ _ => rfl⟩
        clear hq rq
        go_upto_region 18 with fail
        refine wp_region_invF (β := Value × Value × Value × Value × Value × Value × Value × Value × Value) (fun a0 xq => (((((((((a0.put (some 62) (xq.1)).put (some 63) (xq.2.1)).put (some 64) (xq.2.2.1)).put (some 65) (xq.2.2.2.1)).put (some 66) (xq.2.2.2.2.1)).put (some 67) (xq.2.2.2.2.2.1)).put (some 68) (xq.2.2.2.2.2.2.1)).put (some 69) (xq.2.2.2.2.2.2.2.1)).put (some 70) (xq.2.2.2.2.2.2.2.2))) ?fr62q1 (fun xq d w' => ((d 9 = true → d 2 = true) ∧ (d 9 = false → w'.heap[(w.heap.size + 1 + 1)]? = wr.heap[(w.heap.size + 1 + 1)]?)) ∧ ((d 0 = true → (xq.1) = .pointer (some ⟨w.heap.size + 1 + 1, 9, none⟩)) ∧ (d 1 = true → (xq.2.1) = .pointer (some ⟨w.heap.size + 1 + 1, 11, none⟩)) ∧ (d 2 = true → (xq.2.2.1) = .slice ga gn gc) ∧ (d 3 = true → (xq.2.2.2.1) = .pointer (some ⟨w.heap.size + 1, 0, none⟩)) ∧ (d 7 = true → (xq.2.2.2.2.2.2.2.1) = .pointer (some ⟨w.heap.size + 1 + 1, 9, none⟩)) ∧ (d 8 = true → (xq.2.2.2.2.2.2.2.2) = .pointer (some ⟨w.heap.size + 1 + 1, 11, none⟩))) ∧ ∃ j : Nat, j ≤ 4 ∧ (d 4 = decide (0 < j) ∧ d 5 = decide (1 < j) ∧ d 6 = decide (2 < j) ∧ d 9 = decide (3 < j)) ∧ ((j = 0 → GK w.heap.size (w.heap.size + 1) (.slice ao l.length cap) l wr w' (q, 0) (fun s => s) []) ∧ (j = 1 → ∃ (x : Int), (xq.2.2.2.2.1) = .int .i64 x ∧ (In64 x) ∧ GK w.heap.size (w.heap.size + 1) (.slice ao l.length cap) l wr w' (q, 0) (skU l) (ei x)) ∧ (j = 2 → ∃ (x : Int) (w2 : World), (xq.2.2.2.2.1) = .int .i64 x ∧ (xq.2.2.2.2.2.1) = .slice (some ⟨w2.heap.size, 0, none⟩) 1 1 ∧ ((In64 x) ∧ GK w.heap.size (w.heap.size + 1) (.slice ao l.length cap) l wr w2 (q, 0) (skU l) (ei x)) ∧ w' = w2.alloc (.cells #[.int .i64 x] 2)) ∧ (j = 3 → ∃ (x : Int) (w2 : World) (a5 : Option Addr) (n5 m5 : Nat), (xq.2.2.2.2.2.2.1) = .slice a5 n5 m5 ∧ ((In64 x) ∧ GK w.heap.size (w.heap.size + 1) (.slice ao l.length cap) l wr w2 (q, 0) (skU l) (ei x)) ∧ (w'.ownsRow Y.heap.size 2 1 (.slice a5 n5 m5) (i + 1) (ms.flatMap cl_i64 ++ cl_i64 x) ∧ (w2.alloc (.cells #[.int .i64 x] 2)).grownBy w' (Value.ownBlock (.slice ga gn gc)))) ∧ (j = 4 → ∃ (x : Int) (w2 w3 : World) (a5 : Option Addr) (n5 m5 : Nat), ((In64 x) ∧ GK w.heap.size (w.heap.size + 1) (.slice ao l.length cap) l wr w2 (q, 0) (skU l) (ei x)) ∧ (w3.ownsRow Y.heap.size 2 1 (.slice a5 n5 m5) (i + 1) (ms.flatMap cl_i64 ++ cl_i64 x) ∧ (w2.alloc (.cells #[.int .i64 x] 2)).grownBy w3 (Value.ownBlock (.slice ga gn gc))) ∧ w3.heap[(w.heap.size + 1 + 1)]? = wr.heap[(w.heap.size + 1 + 1)]? ∧ w' = w3.setCell ⟨(w.heap.size + 1 + 1), 11, none⟩ (.slice a5 n5 m5)))) ?lay62q1 mixed (by kernel_rfl) ?h062q1 ?hs62q1 ?he62q1
        case lay62q1 =>
          intro xq
          simp only [Act.put, List.setIfInBounds_toArray, List.set_cons_zero, List.set_cons_succ]
          rfl
        case h062q1 =>
          refine ⟨(u62, u63, u64, u65, u66, u67, u68, u69, u70), rfl, ?sig62q1, ⟨(fun h => by cases h), (fun h => by cases h), (fun h => by cases h), (fun h => by cases h), (fun h => by cases h), (fun h => by cases h)⟩, 0, Nat.zero_le _, ⟨rfl, rfl, rfl, rfl⟩, ?S062q1, (fun h => by cases h), (fun h => by cases h), (fun h => by cases h), (fun h => by cases h)⟩
          case sig62q1 => exact hSig0
          case S062q1 => exact fun _ => hS00
        case hs62q1 =>
          refine ⟨?_, ?_, ?_, ?_, ?_, ?_, ?_, ?_, ?_, ?_, trivial⟩
          · rintro d ⟨x62, x63, x64, x65, x66, x67, x68, x69, x70⟩ w' hI hd hdp KQ hK
            dsimp only at hI
            obtain ⟨hS, ⟨f0, f1, f2, f3, f7, f8⟩, j, hj, ⟨dd4, dd5, dd6, dd9⟩, ⟨p0, p1, p2, p3, p4⟩⟩ := hI
            have hd0 := hd
            have HF : Hid _ := And.intro hS (And.intro (And.intro f0 (And.intro f1 (And.intro f2 (And.intro f3 (And.intro f7 f8))))) (And.intro hj (And.intro (And.intro dd4 (And.intro dd5 (And.intro dd6 dd9))) (And.intro p0 (And.intro p1 (And.intro p2 (And.intro p3 p4)))))))
            clear hS f0 f1 f2 f3 f7 f8 hj dd4 dd5 dd6 dd9 p0 p1 p2 p3 p4 hdp hd
            refine Opn.mk ?_
            dsimp only
            go_simp
            obtain ⟨hS, ⟨f0, f1, f2, f3, f7, f8⟩, hj, ⟨dd4, dd5, dd6, dd9⟩, ⟨p0, p1, p2, p3, p4⟩⟩ := HF.out
            exact hK.out (.pointer (some ⟨w.heap.size + 1 + 1, 9, none⟩), x63, x64, x65, x66, x67, x68, x69, x70) _ ⟨⟨fun h => (upd_no (by decide)).trans (hS.1 (upd_ne h (by decide))), fun h => hS.2 (by rw [upd_no (by decide)] at h; exact h)⟩, ⟨(fun _ => rfl), (fun h => f1 (upd_ne h (by decide))), (fun h => f2 (upd_ne h (by decide))), (fun h => f3 (upd_ne h (by decide))), (fun h => f7 (upd_ne h (by decide))), (fun h => f8 (upd_ne h (by decide)))⟩, j, hj, ⟨((upd_no (by decide)).trans dd4), ((upd_no (by decide)).trans dd5), ((upd_no (by decide)).trans dd6), ((upd_no (by decide)).trans dd9)⟩, ⟨p0, p1, p2, p3, p4⟩⟩
          · rintro d ⟨x62, x63, x64, x65, x66, x67, x68, x69, x70⟩ w' hI hd hdp KQ hK
            dsimp only at hI
            obtain ⟨hS, ⟨f0, f1, f2, f3, f7, f8⟩, j, hj, ⟨dd4, dd5, dd6, dd9⟩, ⟨p0, p1, p2, p3, p4⟩⟩ := hI
            obtain rfl := f0 (hdp 0 (by decide +kernel))
            have hd0 := hd
            have HF : Hid _ := And.intro hS (And.intro (And.intro f0 (And.intro f1 (And.intro f2 (And.intro f3 (And.intro f7 f8))))) (And.intro hj (And.intro (And.intro dd4 (And.intro dd5 (And.intro dd6 dd9))) (And.intro p0 (And.intro p1 (And.intro p2 (And.intro p3 p4)))))))
            clear hS f0 f1 f2 f3 f7 f8 hj dd4 dd5 dd6 dd9 p0 p1 p2 p3 p4 hdp hd
            refine Opn.mk ?_
            dsimp only
            go_simp
            obtain ⟨hS, ⟨f0, f1, f2, f3, f7, f8⟩, hj, ⟨dd4, dd5, dd6, dd9⟩, ⟨p0, p1, p2, p3, p4⟩⟩ := HF.out
            exact hK.out (.pointer (some ⟨w.heap.size + 1 + 1, 9, none⟩), .pointer (some ⟨w.heap.size + 1 + 1, 11, none⟩), x64, x65, x66, x67, x68, x69, x70) _ ⟨⟨fun h => (upd_no (by decide)).trans (hS.1 (upd_ne h (by decide))), fun h => hS.2 (by rw [upd_no (by decide)] at h; exact h)⟩, ⟨(fun _ => rfl), (fun _ => rfl), (fun h => f2 (upd_ne h (by decide))), (fun h => f3 (upd_ne h (by decide))), (fun h => f7 (upd_ne h (by decide))), (fun h => f8 (upd_ne h (by decide)))⟩, j, hj, ⟨((upd_no (by decide)).trans dd4), ((upd_no (by decide)).trans dd5), ((upd_no (by decide)).trans dd6), ((upd_no (by decide)).trans dd9)⟩, ⟨p0, p1, p2, p3, p4⟩⟩
          · rintro d ⟨x62, x63, x64, x65, x66, x67, x68, x69, x70⟩ w' hI hd hdp KQ hK
            dsimp only at hI
            obtain ⟨hS, ⟨f0, f1, f2, f3, f7, f8⟩, j, hj, ⟨dd4, dd5, dd6, dd9⟩, ⟨p0, p1, p2, p3, p4⟩⟩ := hI
            obtain rfl := f1 (hdp 1 (by decide +kernel))
            have h9 : d 9 = false := by
              cases h : d 9 with
              | false => rfl
              | true => exact absurd (hS.1 h) (by rw [hd]; decide)
            have c5 : w'.cell? ⟨(w.heap.size + 1 + 1), 11, none⟩ = some (.slice ga gn gc) := by
              rw [cell_block (hS.2 h9)]
              have := HLL.out.rg 0 _ rfl
              rwa [Nat.add_zero] at this
            have hd0 := hd
            have HF : Hid _ := And.intro hS (And.intro (And.intro f0 (And.intro f1 (And.intro f2 (And.intro f3 (And.intro f7 f8))))) (And.intro hj (And.intro (And.intro dd4 (And.intro dd5 (And.intro dd6 dd9))) (And.intro p0 (And.intro p1 (And.intro p2 (And.intro p3 p4)))))))
            clear hS f0 f1 f2 f3 f7 f8 hj dd4 dd5 dd6 dd9 p0 p1 p2 p3 p4 hdp hd
            refine Opn.mk ?_
            dsimp only
            go_simp
            obtain ⟨hS, ⟨f0, f1, f2, f3, f7, f8⟩, hj, ⟨dd4, dd5, dd6, dd9⟩, ⟨p0, p1, p2, p3, p4⟩⟩ := HF.out
            exact hK.out (x62, .pointer (some ⟨w.heap.size + 1 + 1, 11, none⟩), .slice ga gn gc, x65, x66, x67, x68, x69, x70) _ ⟨⟨fun h => by simp [upd], fun h => hS.2 (by rw [upd_no (by decide)] at h; exact h)⟩, ⟨(fun h => f0 (upd_ne h (by decide))), (fun _ => rfl), (fun _ => rfl), (fun h => f3 (upd_ne h (by decide))), (fun h => f7 (upd_ne h (by decide))), (fun h => f8 (upd_ne h (by decide)))⟩, j, hj, ⟨((upd_no (by decide)).trans dd4), ((upd_no (by decide)).trans dd5), ((upd_no (by decide)).trans dd6), ((upd_no (by decide)).trans dd9)⟩, ⟨p0, p1, p2, p3, p4⟩⟩
          · rintro d ⟨x62, x63, x64, x65, x66, x67, x68, x69, x70⟩ w' hI hd hdp KQ hK
            dsimp only at hI
            obtain ⟨hS, ⟨f0, f1, f2, f3, f7, f8⟩, j, hj, ⟨dd4, dd5, dd6, dd9⟩, ⟨p0, p1, p2, p3, p4⟩⟩ := hI
            have hd0 := hd
            have HF : Hid _ := And.intro hS (And.intro (And.intro f0 (And.intro f1 (And.intro f2 (And.intro f3 (And.intro f7 f8))))) (And.intro hj (And.intro (And.intro dd4 (And.intro dd5 (And.intro dd6 dd9))) (And.intro p0 (And.intro p1 (And.intro p2 (And.intro p3 p4)))))))
            clear hS f0 f1 f2 f3 f7 f8 hj dd4 dd5 dd6 dd9 p0 p1 p2 p3 p4 hdp hd
            refine Opn.mk ?_
            dsimp only
            go_simp
            obtain ⟨hS, ⟨f0, f1, f2, f3, f7, f8⟩, hj, ⟨dd4, dd5, dd6, dd9⟩, ⟨p0, p1, p2, p3, p4⟩⟩ := HF.out
            exact hK.out (x62, x63, x64, .pointer (some ⟨w.heap.size + 1, 0, none⟩), x66, x67, x68, x69, x70) _ ⟨⟨fun h => (upd_no (by decide)).trans (hS.1 (upd_ne h (by decide))), fun h => hS.2 (by rw [upd_no (by decide)] at h; exact h)⟩, ⟨(fun h => f0 (upd_ne h (by decide))), (fun h => f1 (upd_ne h (by decide))), (fun h => f2 (upd_ne h (by decide))), (fun _ => rfl), (fun h => f7 (upd_ne h (by decide))), (fun h => f8 (upd_ne h (by decide)))⟩, j, hj, ⟨((upd_no (by decide)).trans dd4), ((upd_no (by decide)).trans dd5), ((upd_no (by decide)).trans dd6), ((upd_no (by decide)).trans dd9)⟩, ⟨p0, p1, p2, p3, p4⟩⟩
          · rintro d ⟨x62, x63, x64, x65, x66, x67, x68, x69, x70⟩ w' hI hd hdp KQ hK
            dsimp only at hI
            obtain ⟨hS, ⟨f0, f1, f2, f3, f7, f8⟩, j, hj, ⟨dd4, dd5, dd6, dd9⟩, ⟨p0, p1, p2, p3, p4⟩⟩ := hI
            obtain rfl := f3 (hdp 3 (by decide +kernel))
            obtain rfl := ph_zero dd4 hd
            have s := p0 rfl
            clear p0 p1 p2 p3 p4 hj
            have G := s
            clear s
            have kk := kint w.heap.size (w.heap.size + 1) (.slice ao l.length cap) l w' _ _ G.ps
            have HG : Hid _ := And.intro hS G
            clear hS G
            have HF : Hid _ := And.intro (And.intro f0 (And.intro f1 (And.intro f2 (And.intro f3 (And.intro f7 f8))))) (And.intro dd4 (And.intro dd5 (And.intro dd6 dd9)))
            clear f0 f1 f2 f3 f7 f8 dd4 dd5 dd6 dd9 hdp hd
            refine Opn.mk ?_
            dsimp only
            go_simp
            go_wp2_with (first | (go_at_call 60; with_reducible refine kk.mono ?_; rintro e5 w5 ⟨x, rfl, ix, G5⟩))
            obtain ⟨hS, G⟩ := HG.out
            obtain ⟨⟨f0, f1, f2, f3, f7, f8⟩, ⟨dd4, dd5, dd6, dd9⟩⟩ := HF.out
            refine hK.out (x62, x63, x64, .pointer (some ⟨w.heap.size + 1, 0, none⟩), .int .i64 x, x67, x68, x69, x70) _ ⟨?sg, ⟨(fun h => f0 (upd_ne h (by decide))), (fun h => f1 (upd_ne h (by decide))), (fun h => f2 (upd_ne h (by decide))), (fun _ => rfl), (fun h => f7 (upd_ne h (by decide))), (fun h => f8 (upd_ne h (by decide)))⟩, 1, by decide, ⟨(by simp [upd]), ((upd_no (by decide)).trans (dd5.trans (by decide))), ((upd_no (by decide)).trans (dd6.trans (by decide))), ((upd_no (by decide)).trans (dd9.trans (by decide)))⟩, ⟨(fun h => absurd h (by decide)), (fun _ => ?new), (fun h => absurd h (by decide)), (fun h => absurd h (by decide)), (fun h => absurd h (by decide))⟩⟩
            case sg => exact ⟨fun h => (upd_no (by decide)).trans (hS.1 (upd_ne h (by decide))), fun h => by rw [G5.g.block (w.heap.size + 1 + 1) (Nat.lt_of_lt_of_le (Nat.lt_of_lt_of_le hmY HLL.out.size) G.g.size) (fun e => by simp only [Option.some.injEq] at e; omega)]; exact (hS.2 (by rw [upd_no (by decide)] at h; exact h))⟩
            case new =>
              have GC := GK.comp hql (fwd_id l) (fwd_u l) G G5
              exact ⟨x, rfl, ix, ⟨GC.ps, GC.g, GC.b⟩⟩
          · rintro d ⟨x62, x63, x64, x65, x66, x67, x68, x69, x70⟩ w' hI hd hdp KQ hK
            dsimp only at hI
            obtain ⟨hS, ⟨f0, f1, f2, f3, f7, f8⟩, j, hj, ⟨dd4, dd5, dd6, dd9⟩, ⟨p0, p1, p2, p3, p4⟩⟩ := hI
            obtain rfl := ph_eq (k := 0) dd5 hd dd4 (hdp 4 (by decide +kernel))
            have s := p1 rfl
            clear p0 p1 p2 p3 p4 hj
            obtain ⟨x, rfl, F1⟩ := s
            have HG : Hid _ := And.intro hS F1
            clear hS F1
            have HF : Hid _ := And.intro (And.intro f0 (And.intro f1 (And.intro f2 (And.intro f3 (And.intro f7 f8))))) (And.intro dd4 (And.intro dd5 (And.intro dd6 dd9)))
            clear f0 f1 f2 f3 f7 f8 dd4 dd5 dd6 dd9 hdp hd
            refine Opn.mk ?_
            dsimp only
            go_simp
            obtain ⟨hS, F1⟩ := HG.out
            obtain ⟨⟨f0, f1, f2, f3, f7, f8⟩, ⟨dd4, dd5, dd6, dd9⟩⟩ := HF.out
            refine hK.out (x62, x63, x64, x65, .int .i64 x, (.slice (some ⟨w'.heap.size, 0, none⟩) 1 1), x68, x69, x70) _ ⟨?sg, ⟨(fun h => f0 (upd_ne h (by decide))), (fun h => f1 (upd_ne h (by decide))), (fun h => f2 (upd_ne h (by decide))), (fun h => f3 (upd_ne h (by decide))), (fun h => f7 (upd_ne h (by decide))), (fun h => f8 (upd_ne h (by decide)))⟩, 2, by decide, ⟨((upd_no (by decide)).trans (dd4.trans (by decide))), (by simp [upd]), ((upd_no (by decide)).trans (dd6.trans (by decide))), ((upd_no (by decide)).trans (dd9.trans (by decide)))⟩, ⟨(fun h => absurd h (by decide)), (fun h => absurd h (by decide)), (fun _ => ?new), (fun h => absurd h (by decide)), (fun h => absurd h (by decide))⟩⟩
            case sg => exact ⟨fun h => (upd_no (by decide)).trans (hS.1 (upd_ne h (by decide))), fun h => by rw [Below.heap_alloc _ _ _ (Nat.lt_of_lt_of_le (Nat.lt_of_lt_of_le hmY HLL.out.size) F1.2.g.size)]; exact (hS.2 (by rw [upd_no (by decide)] at h; exact h))⟩
            case new =>
              exact ⟨x, w', rfl, rfl, F1, rfl⟩
          · rintro d ⟨x62, x63, x64, x65, x66, x67, x68, x69, x70⟩ w' hI hd hdp KQ hK
            dsimp only at hI
            obtain ⟨hS, ⟨f0, f1, f2, f3, f7, f8⟩, j, hj, ⟨dd4, dd5, dd6, dd9⟩, ⟨p0, p1, p2, p3, p4⟩⟩ := hI
            obtain rfl := f2 (hdp 2 (by decide +kernel))
            obtain rfl := ph_eq (k := 1) dd6 hd dd5 (hdp 5 (by decide +kernel))
            have s := p2 rfl
            clear p0 p1 p2 p3 p4 hj
            obtain ⟨x, w2, rfl, rfl, F1, rfl⟩ := s
            have HG : Hid _ := And.intro hS F1
            have HOW2 : Hid (w2.ownsRow Y.heap.size 2 1 (.slice ga gn gc) i (ms.flatMap cl_i64)) := (HP.out.ktt F1.2.g).own HOW.out (by decide)
            have hsz2 : Y.heap.size ≤ w2.heap.size := Nat.le_trans HLL.out.size F1.2.g.size
            clear hS F1
            have HF : Hid _ := And.intro (And.intro f0 (And.intro f1 (And.intro f2 (And.intro f3 (And.intro f7 f8))))) (And.intro dd4 (And.intro dd5 (And.intro dd6 dd9)))
            clear f0 f1 f2 f3 f7 f8 dd4 dd5 dd6 dd9 hdp hd
            refine Opn.mk ?_
            dsimp only
            rw [if_pos (show Region.wanted _ _ = true from rfl)]
            refine wp_appF (.tmp 64) (.tmp 67) 25 rfl Y.heap.size 2 i0 (.int .i64 0) 1 8 Try.underlying25 hi0 hz0 hz1 hz2 rfl (by decide) (.slice ga gn gc) i (ms.flatMap cl_i64) rfl (World.ownsRow.alloc HOW2.out (.cells #[.int .i64 x] 2)) ⟨w2.heap.size, 0, none⟩ 1 1 (cl_i64 x) rfl (lit_rds' w2 _ 2 _ rfl) (fun u hu => by simp [cl_i64] at hu; subst hu; rfl) (by unfold maxLen; omega) (by omega) (Nat.le_trans hsz2 (by simp)) ?_
            intro v3 w3 o3 g3 _
            obtain ⟨a5, n5, m5, rfl⟩ := own_sl o3
            obtain ⟨hS, F1⟩ := HG.out
            obtain ⟨⟨f0, f1, f2, f3, f7, f8⟩, ⟨dd4, dd5, dd6, dd9⟩⟩ := HF.out
            refine hK.out (x62, x63, .slice ga gn gc, x65, .int .i64 x, (.slice (some ⟨w2.heap.size, 0, none⟩) 1 1), .slice a5 n5 m5, x69, x70) _ ⟨?sg, ⟨(fun h => f0 (upd_ne h (by decide))), (fun h => f1 (upd_ne h (by decide))), (fun _ => rfl), (fun h => f3 (upd_ne h (by decide))), (fun h => f7 (upd_ne h (by decide))), (fun h => f8 (upd_ne h (by decide)))⟩, 3, by decide, ⟨((upd_no (by decide)).trans (dd4.trans (by decide))), ((upd_no (by decide)).trans (dd5.trans (by decide))), (by simp [upd]), ((upd_no (by decide)).trans (dd9.trans (by decide)))⟩, ⟨(fun h => absurd h (by decide)), (fun h => absurd h (by decide)), (fun h => absurd h (by decide)), (fun _ => ?new), (fun h => absurd h (by decide))⟩⟩
            case sg => exact ⟨fun h => (upd_no (by decide)).trans (hS.1 (upd_ne h (by decide))), fun h => by rw [g3.block (w.heap.size + 1 + 1) (by have := Nat.lt_of_lt_of_le (Nat.lt_of_lt_of_le hmY HLL.out.size) F1.2.g.size; simp; omega) (fun e => by have := (World.ownsRow.lt HOW2.out _ e.symm).1; omega)]; exact (hS.2 (by rw [upd_no (by decide)] at h; exact h))⟩
            case new =>
              exact ⟨x, w2, a5, n5, m5, rfl, F1, o3, g3⟩
          · rintro d ⟨x62, x63, x64, x65, x66, x67, x68, x69, x70⟩ w' hI hd hdp KQ hK
            dsimp only at hI
            obtain ⟨hS, ⟨f0, f1, f2, f3, f7, f8⟩, j, hj, ⟨dd4, dd5, dd6, dd9⟩, ⟨p0, p1, p2, p3, p4⟩⟩ := hI
            have hd0 := hd
            have HF : Hid _ := And.intro hS (And.intro (And.intro f0 (And.intro f1 (And.intro f2 (And.intro f3 (And.intro f7 f8))))) (And.intro hj (And.intro (And.intro dd4 (And.intro dd5 (And.intro dd6 dd9))) (And.intro p0 (And.intro p1 (And.intro p2 (And.intro p3 p4)))))))
            clear hS f0 f1 f2 f3 f7 f8 hj dd4 dd5 dd6 dd9 p0 p1 p2 p3 p4 hdp hd
            refine Opn.mk ?_
            dsimp only
            go_simp
            obtain ⟨hS, ⟨f0, f1, f2, f3, f7, f8⟩, hj, ⟨dd4, dd5, dd6, dd9⟩, ⟨p0, p1, p2, p3, p4⟩⟩ := HF.out
            exact hK.out (x62, x63, x64, x65, x66, x67, x68, .pointer (some ⟨w.heap.size + 1 + 1, 9, none⟩), x70) _ ⟨⟨fun h => (upd_no (by decide)).trans (hS.1 (upd_ne h (by decide))), fun h => hS.2 (by rw [upd_no (by decide)] at h; exact h)⟩, ⟨(fun h => f0 (upd_ne h (by decide))), (fun h => f1 (upd_ne h (by decide))), (fun h => f2 (upd_ne h (by decide))), (fun h => f3 (upd_ne h (by decide))), (fun _ => rfl), (fun h => f8 (upd_ne h (by decide)))⟩, j, hj, ⟨((upd_no (by decide)).trans dd4), ((upd_no (by decide)).trans dd5), ((upd_no (by decide)).trans dd6), ((upd_no (by decide)).trans dd9)⟩, ⟨p0, p1, p2, p3, p4⟩⟩
          · rintro d ⟨x62, x63, x64, x65, x66, x67, x68, x69, x70⟩ w' hI hd hdp KQ hK
            dsimp only at hI
            obtain ⟨hS, ⟨f0, f1, f2, f3, f7, f8⟩, j, hj, ⟨dd4, dd5, dd6, dd9⟩, ⟨p0, p1, p2, p3, p4⟩⟩ := hI
            obtain rfl := f7 (hdp 7 (by decide +kernel))
            have hd0 := hd
            have HF : Hid _ := And.intro hS (And.intro (And.intro f0 (And.intro f1 (And.intro f2 (And.intro f3 (And.intro f7 f8))))) (And.intro hj (And.intro (And.intro dd4 (And.intro dd5 (And.intro dd6 dd9))) (And.intro p0 (And.intro p1 (And.intro p2 (And.intro p3 p4)))))))
            clear hS f0 f1 f2 f3 f7 f8 hj dd4 dd5 dd6 dd9 p0 p1 p2 p3 p4 hdp hd
            refine Opn.mk ?_
            dsimp only
            go_simp
            obtain ⟨hS, ⟨f0, f1, f2, f3, f7, f8⟩, hj, ⟨dd4, dd5, dd6, dd9⟩, ⟨p0, p1, p2, p3, p4⟩⟩ := HF.out
            exact hK.out (x62, x63, x64, x65, x66, x67, x68, .pointer (some ⟨w.heap.size + 1 + 1, 9, none⟩), .pointer (some ⟨w.heap.size + 1 + 1, 11, none⟩)) _ ⟨⟨fun h => (upd_no (by decide)).trans (hS.1 (upd_ne h (by decide))), fun h => hS.2 (by rw [upd_no (by decide)] at h; exact h)⟩, ⟨(fun h => f0 (upd_ne h (by decide))), (fun h => f1 (upd_ne h (by decide))), (fun h => f2 (upd_ne h (by decide))), (fun h => f3 (upd_ne h (by decide))), (fun _ => rfl), (fun _ => rfl)⟩, j, hj, ⟨((upd_no (by decide)).trans dd4), ((upd_no (by decide)).trans dd5), ((upd_no (by decide)).trans dd6), ((upd_no (by decide)).trans dd9)⟩, ⟨p0, p1, p2, p3, p4⟩⟩
          · rintro d ⟨x62, x63, x64, x65, x66, x67, x68, x69, x70⟩ w' hI hd hdp KQ hK
            dsimp only at hI
            obtain ⟨hS, ⟨f0, f1, f2, f3, f7, f8⟩, j, hj, ⟨dd4, dd5, dd6, dd9⟩, ⟨p0, p1, p2, p3, p4⟩⟩ := hI
            obtain rfl := f8 (hdp 8 (by decide +kernel))
            obtain rfl := ph_eq (k := 2) dd9 hd dd6 (hdp 6 (by decide +kernel))
            have s := p3 rfl
            clear p0 p1 p2 p3 p4 hj
            have hd1 : d 2 = true := hdp 2 (by decide +kernel)
            obtain ⟨x, w2, a5, n5, m5, rfl, F1, N1⟩ := s
            have hb := hS.2 hd
            have z5 : w'.cell? ⟨(w.heap.size + 1 + 1), 11, none⟩ = some (.slice ga gn gc) := by
              rw [cell_block hb]
              have := HLL.out.rg 0 _ rfl
              rwa [Nat.add_zero] at this
            have q5 : w'.frozen? ⟨(w.heap.size + 1 + 1), 11, none⟩ = false := by rw [frozen_block hb]; exact there_free HLL.out.th 11 (by decide)
            have HG : Hid _ := And.intro hb (And.intro F1 (And.intro N1 hd1))
            clear hS F1 N1 hb hd1
            have HF : Hid _ := And.intro (And.intro f0 (And.intro f1 (And.intro f2 (And.intro f3 (And.intro f7 f8))))) (And.intro dd4 (And.intro dd5 (And.intro dd6 dd9)))
            clear f0 f1 f2 f3 f7 f8 dd4 dd5 dd6 dd9 hdp hd
            refine Opn.mk ?_
            dsimp only
            go_simp
            obtain ⟨hb, F1, N1, hd1⟩ := HG.out
            obtain ⟨⟨f0, f1, f2, f3, f7, f8⟩, ⟨dd4, dd5, dd6, dd9⟩⟩ := HF.out
            refine hK.out (x62, x63, x64, x65, x66, x67, .slice a5 n5 m5, x69, .pointer (some ⟨w.heap.size + 1 + 1, 11, none⟩)) _ ⟨?sg, ⟨(fun h => f0 (upd_ne h (by decide))), (fun h => f1 (upd_ne h (by decide))), (fun h => f2 (upd_ne h (by decide))), (fun h => f3 (upd_ne h (by decide))), (fun h => f7 (upd_ne h (by decide))), (fun _ => rfl)⟩, 4, by decide, ⟨((upd_no (by decide)).trans (dd4.trans (by decide))), ((upd_no (by decide)).trans (dd5.trans (by decide))), ((upd_no (by decide)).trans (dd6.trans (by decide))), (by simp [upd])⟩, ⟨(fun h => absurd h (by decide)), (fun h => absurd h (by decide)), (fun h => absurd h (by decide)), (fun h => absurd h (by decide)), (fun _ => ?new)⟩⟩
            case sg => exact ⟨fun _ => (upd_no (by decide)).trans hd1, fun h => by simp [upd] at h⟩
            case new =>
              exact ⟨x, w2, w', a5, n5, m5, F1, N1, hb, rfl⟩
        case he62q1 =>
          rintro d ⟨x62, x63, x64, x65, x66, x67, x68, x69, x70⟩ w' hall hI
          dsimp only at hI
          obtain ⟨hS, ⟨f0, f1, f2, f3, f7, f8⟩, j, hj, ⟨dd4, dd5, dd6, dd9⟩, ⟨p0, p1, p2, p3, p4⟩⟩ := hI
          obtain rfl := ph_end (k := 3) hj dd9 (hall 9 (by decide))
          have s := p4 rfl
          clear hall hj f0 f1 f2 f3 f7 f8 dd4 dd5 dd6 dd9 p0 p1 p2 p3 p4
          obtain ⟨x, w2, w3, a5, n5, m5, ⟨ix, G1⟩, ⟨o3, g3⟩, hb3, rfl⟩ := s
          have HF : Hid _ := And.intro ix (And.intro G1 (And.intro o3 (And.intro g3 hb3)))
          clear ix G1 o3 g3 hb3 hS
          dsimp only
          go_wp2_with fail
          go_roundg (n - (i + 1))
          case measure => omega
          case rel =>
            obtain ⟨ix, G1, o3, g3, hb3⟩ := HF.out
            have HOW2 := (HP.out.ktt G1.g).own HOW.out (by decide)
            have hrl : ∀ g, Value.ownBlock (.slice ga gn gc) = some g → Y.heap.size ≤ g ∧ g < wr.heap.size := fun g hg => World.ownsRow.lt HOW.out g hg
            have gA : w2.grownBy w3 (Value.ownBlock (.slice ga gn gc)) := grown_trans' (grown_alloc _ _ _) g3
            have hsz2 := G1.g.size
            have hszY := HLL.out.size
            have bA : Below ((w.heap.size + 1) + 1) w2 w3 := ⟨gA.os, gA.tape, gA.output, gA.size, fun j hj => gA.block j (by omega) (fun e => by have := hrl j e.symm; omega)⟩
            have HS2 : skU l (q, 0) = skN (skU l) (i + 1) s1 := by rw [skN_succ, ← HQ.out]
            refine ⟨i + 1, ms ++ [x], a5, n5, m5, by go_num, by omega, Nat.le_refl _, by apply hide; simp [HXL.out], ?_, ?_, ?_, ?_, ?_⟩
            · refine LL.step (w3 := w3) HLL.out (.slice a5 n5 m5) (gA.os.trans G1.g.os) (gA.tape.trans G1.g.tape) (gA.output.trans G1.g.output) (Nat.le_trans hsz2 gA.size) (fun j h1 h2 => ?_) hmY hKm (by decide)
              rw [gA.block j (by omega) (fun e => by have := (hrl j e.symm).1; omega)]
              exact G1.g.block j (by omega) (fun e => by simp only [Option.some.injEq] at e; omega)
            · apply hide
              have := (Win.grow (own_win o3) (grown_setCell (w := w3) (R := (w.heap.size + 1 + 1)) (j := 11) (u := .slice a5 n5 m5)) (by omega)).now
              simpa using this
            · intro y hy
              rcases List.mem_append.1 hy with hy | hy
              · exact HOK.out y hy
              · simp at hy
                subst hy
                exact ix
            · apply hide
              rw [← HS2]
              exact (G1.ps.keep bA).keep (grown_above grown_setCell (by omega) (by have := gA.size; omega))
            · intro h0 h2
              have hle1 := (fwd_n (fwd_u l) i).le s1 HP1.out.le
              have hq0 : (skN (skU l) i s1).2 = 0 := by rw [← HQ.out]
              have hq1 : (skN (skU l) i s1).1 = q := by rw [← HQ.out]
              rw [List.flatMap_append, HBB.out h0 hq0]
              rw [← HS2] at h2 ⊢
              simp only [List.flatMap_cons, List.flatMap_nil, List.append_nil]
              have hb := G1.b rfl h2
              rw [hq1] at hle1 ⊢
              exact (congrArg (rd l s1.1 q ++ ·) hb).trans (rd_app l hle1.1 ((fwd_u l).le (q, 0) hle1.2).1).symm
      · have hE2 : ((E : Int) == 0) = false := by simpa using he
        have es : D12 l (0, 0) = skN (skU l) i s1 := by
          show skL l (skU l) (D11 l (0, 0)) = _
          rw [← HS0.out]
          show skN (skU l) (cS l s0.1 s0.2 1).1 (cS l s0.1 s0.2 1).2 = _
          rw [← HN.out.1, ← HN.out.2, show n = i + (n - i) by omega, skN_add]
          exact skN_stay (fwd_u l).stay _ _ (by rw [← HEE.out]; exact he)
        have hk := ks12 hR2 hm2 H.out (w1 := wr) HOK.out (by
          have w1 : Win Y.heap.size wr (fun w => Fi.RdsK 1 w (.slice ga gn gc) ms.length (ms.flatMap cl_i64)) := by rw [HXL.out]; exact (own_win HOW.out).imp fun _ r => Fi.RdsK.of_own r
          exact w1) HLL.out (by rw [es]; exact HP.out) (by
          intro h0 h2
          rw [es] at h2 ⊢
          rw [← HS0.out] at h0 ⊢
          exact absurd h2 (by rw [← HEE.out]; exact he))
        have H2 : Hid (KG12 w.heap.size (w.heap.size + 1) (.slice ao l.length cap) l (w.heap.size + 1 + 1) V wr) := hk
        have HO2 : Hid (BxA wr w.heap.size 46 zmsg) := HLL.out.sk.box HO.out (by omega) (by omega)
        clear hk es HLL HOW HOK HXL HBB HP H HO HS0 HN HP0 HP1 hmY
        go_upto_region 19 with fail
        clear c2 hlt hltz hE2 he
        rename World => Y
        have H := H2
        have HO := HO2
        clear H2 HO2
        have HY : Hid (Y = Y) := rfl
        have hps := kg12_ps H.out
        have kk := kquery w.heap.size (w.heap.size + 1) (.slice ao l.length cap) l Y _ _ hlb hps.1
        have HPS : Hid _ := hps
        clear hps
        go_wp2_with fail
        refine kk.mono ?_
        rintro er w1 ⟨q, rfl, wn, ⟨⟨qa, qn, qc, e1⟩, ⟨ra, rn, rc, e2⟩, ⟨sa, sn, sc, e3⟩, ⟨va, vn, vc, e4⟩⟩, G⟩
        rw [e1, e2, e3, e4]
        have pr := And.intro e1 (And.intro e2 (And.intro e3 e4))
        have hps := HPS.out
        have ht1 : w1.there (w.heap.size + 1 + 1) 0 41 := there_block (G.g.block (w.heap.size + 1 + 1) (Nat.lt_of_lt_of_le hm2 hps.2.2) (fun e => by simp only [Option.some.injEq] at e; omega)) hps.2.1
        have HT1 : Hid _ := ht1
        have hk := ks13 hR2 hm2 hKm H.out pr wn G
        obtain ⟨Y2, hY2⟩ : ∃ Y2, Y2 = w1.setCells (w.heap.size + 1 + 1) 12 [.int .i64 q.F, .int .i64 q.T, .int .i64 q.t.k, .int .i64 q.t.d, .slice qa qn qc, .int .i64 q.t.lo, .int .i64 q.t.hi, .slice ra rn rc, .int .i64 q.g, .slice sa sn sc, .slice va vn vc, .int .i64 q.G, .int .i64 q.R] := ⟨_, rfl⟩
        have H2 : Hid (KG13 w.heap.size (w.heap.size + 1) (.slice ao l.length cap) l (w.heap.size + 1 + 1) V Y2) := by apply hide; rw [hY2]; exact hk.1
        have HO2 : Hid (BxA Y2 w.heap.size 46 zmsg) := by apply hide; rw [hY2]; exact hk.2.box HO.out (by omega) (by omega)
        have HY2 : Hid (Y2 = _) := hY2
        clear hk hY2 kk ht1 hps HPS pr G HY H HO wn e1 e2 e3 e4
        go_upto_region 20 with (first | (refine wpList_store_mid rfl 36 (.tmp 73) (.tmp 72) rfl (w.heap.size + 1 + 1) 12 #[.int .i64 q.F, .int .i64 q.T, .int .i64 q.t.k, .int .i64 q.t.d, .slice qa qn qc, .int .i64 q.t.lo, .int .i64 q.t.hi, .slice ra rn rc, .int .i64 q.g, .slice sa sn sc, .slice va vn vc, .int .i64 q.G, .int .i64 q.R] rfl rfl (there_sub HT1.out 12 13 (by decide)) (by kernel_rfl) (by first | rfl | simp [Value.oneCell']) ?_))
        clear HT1
        rw [← HY2.out]
        have HY : Hid (Y2 = Y2) := rfl
        have H := H2
        have HO := HO2
        clear H2 HO2 HY2
        rename World => Y
        have hps := kg13_ps H.out
        have kk := kseg w.heap.size (w.heap.size + 1) (.slice ao l.length cap) l Y _ _ hlb hps.1
        have HPS : Hid _ := hps
        clear hps
        go_wp2_with fail
        refine kk.mono ?_
        rintro er w1 ⟨y, rfl, pr, G⟩
        have hps := HPS.out
        have ht1 : w1.there (w.heap.size + 1 + 1) 0 41 := there_block (G.g.block (w.heap.size + 1 + 1) (Nat.lt_of_lt_of_le hm2 hps.2.2) (fun e => by simp only [Option.some.injEq] at e; omega)) hps.2.1
        have HT1 : Hid _ := ht1
        have hk := ks14 hR2 hm2 hKm H.out pr G
        obtain ⟨Y2, hY2⟩ : ∃ Y2, Y2 = w1.setCells (w.heap.size + 1 + 1) 25 [.int .i64 y.F, .int .i64 y.T, .int .i64 y.V, .int .i64 y.P, .int .i64 y.C] := ⟨_, rfl⟩
        have H2 : Hid (KG14 w.heap.size (w.heap.size + 1) (.slice ao l.length cap) l (w.heap.size + 1 + 1) V Y2) := by apply hide; rw [hY2]; exact hk.1
        have HO2 : Hid (BxA Y2 w.heap.size 46 zmsg) := by apply hide; rw [hY2]; exact hk.2.box HO.out (by omega) (by omega)
        have HY2 : Hid (Y2 = _) := hY2
        clear hk hY2 kk ht1 hps HPS pr G HY H HO
        go_upto_region 21 with (first | (refine wpList_store_mid rfl 38 (.tmp 77) (.tmp 75) rfl (w.heap.size + 1 + 1) 25 #[.int .i64 y.F, .int .i64 y.T, .int .i64 y.V, .int .i64 y.P, .int .i64 y.C] rfl rfl (there_sub HT1.out 25 5 (by decide)) (by kernel_rfl) (by first | rfl | simp [Value.oneCell']) ?_))
        clear HT1
        rw [← HY2.out]
        have HY : Hid (Y2 = Y2) := rfl
        have H := H2
        have HO := HO2
        clear H2 HO2 HY2
        rename World => Y
        have hps := kg14_ps H.out
        have kk := kspan w.heap.size (w.heap.size + 1) (.slice ao l.length cap) l Y _ _ hlb hps.1
        have HPS : Hid _ := hps
        clear hps
        go_wp2_with fail
        refine kk.mono ?_
        rintro er w1 ⟨F, T, rfl, iF, iT, G⟩
        have pr := And.intro iF iT
        have hps := HPS.out
        have ht1 : w1.there (w.heap.size + 1 + 1) 0 41 := there_block (G.g.block (w.heap.size + 1 + 1) (Nat.lt_of_lt_of_le hm2 hps.2.2) (fun e => by simp only [Option.some.injEq] at e; omega)) hps.2.1
        have HT1 : Hid _ := ht1
        have hk := ks15 hR2 hm2 hKm H.out pr G
        obtain ⟨Y2, hY2⟩ : ∃ Y2, Y2 = w1.setCells (w.heap.size + 1 + 1) 30 [.int .i64 F, .int .i64 T] := ⟨_, rfl⟩
        have H2 : Hid (KG15 w.heap.size (w.heap.size + 1) (.slice ao l.length cap) l (w.heap.size + 1 + 1) V Y2) := by apply hide; rw [hY2]; exact hk.1
        have HO2 : Hid (BxA Y2 w.heap.size 46 zmsg) := by apply hide; rw [hY2]; exact hk.2.box HO.out (by omega) (by omega)
        have HY2 : Hid (Y2 = _) := hY2
        clear hk hY2 kk ht1 hps HPS pr G HY H HO iF iT
        go_upto_region 22 with (first | (refine wpList_store_mid rfl 29 (.tmp 81) (.tmp 79) rfl (w.heap.size + 1 + 1) 30 #[.int .i64 F, .int .i64 T] rfl rfl (there_sub HT1.out 30 2 (by decide)) (by kernel_rfl) (by first | rfl | simp [Value.oneCell']) ?_))
        clear HT1
        rw [← HY2.out]
        have HY : Hid (Y2 = Y2) := rfl
        have H := H2
        have HO := HO2
        clear H2 HO2 HY2
        rename World => Y
        have hps := kg15_ps H.out
        have kk := kbool' w.heap.size (w.heap.size + 1) (.slice ao l.length cap) l Y _ _ hps.1
        have HPS : Hid _ := hps
        clear hps
        go_wp2_with fail
        refine kk.mono ?_
        rintro er w1 ⟨od, rfl, G⟩
        have pr := True.intro
        have hps := HPS.out
        have ht1 : w1.there (w.heap.size + 1 + 1) 0 41 := there_block (G.g.block (w.heap.size + 1 + 1) (Nat.lt_of_lt_of_le hm2 hps.2.2) (fun e => by simp only [Option.some.injEq] at e; omega)) hps.2.1
        obtain ⟨u0, hu0⟩ := there_cell ht1 32 (by decide)
        have hf0 := there_free ht1 32 (by decide)
        have hk := ks16 hR2 hm2 hKm H.out pr G
        obtain ⟨Y2, hY2⟩ : ∃ Y2, Y2 = w1.setCell ⟨(w.heap.size + 1 + 1), 32, none⟩ (.bool od) := ⟨_, rfl⟩
        have H2 : Hid (KG16 w.heap.size (w.heap.size + 1) (.slice ao l.length cap) l (w.heap.size + 1 + 1) V Y2) := by apply hide; rw [hY2]; exact hk.1
        have HO2 : Hid (BxA Y2 w.heap.size 46 zmsg) := by apply hide; rw [hY2]; exact hk.2.box HO.out (by omega) (by omega)
        have HY2 : Hid (Y2 = _) := hY2
        clear hk hY2 kk ht1 hps HPS pr G HY H HO
        go_upto_region 23 with fail
        clear hu0 hf0
        rw [← HY2.out]
        have HY : Hid (Y2 = Y2) := rfl
        have H := H2
        have HO := HO2
        clear H2 HO2 HY2
        rename World => Y
        have hps := kg16_ps H.out
        have kk := kseg w.heap.size (w.heap.size + 1) (.slice ao l.length cap) l Y _ _ hlb hps.1
        have HPS : Hid _ := hps
        clear hps
        go_wp2_with fail
        refine kk.mono ?_
        rintro er w1 ⟨z, rfl, pr, G⟩
        have hps := HPS.out
        have ht1 : w1.there (w.heap.size + 1 + 1) 0 41 := there_block (G.g.block (w.heap.size + 1 + 1) (Nat.lt_of_lt_of_le hm2 hps.2.2) (fun e => by simp only [Option.some.injEq] at e; omega)) hps.2.1
        have HT1 : Hid _ := ht1
        have hk := ks17 hR2 hm2 hKm H.out pr G
        obtain ⟨Y2, hY2⟩ : ∃ Y2, Y2 = w1.setCells (w.heap.size + 1 + 1) 33 [.int .i64 z.F, .int .i64 z.T, .int .i64 z.V, .int .i64 z.P, .int .i64 z.C] := ⟨_, rfl⟩
        have H2 : Hid (KG17 w.heap.size (w.heap.size + 1) (.slice ao l.length cap) l (w.heap.size + 1 + 1) V Y2) := by apply hide; rw [hY2]; exact hk.1
        have HO2 : Hid (BxA Y2 w.heap.size 46 zmsg) := by apply hide; rw [hY2]; exact hk.2.box HO.out (by omega) (by omega)
        have HY2 : Hid (Y2 = _) := hY2
        clear hk hY2 kk ht1 hps HPS pr G HY H HO
        go_upto_region 24 with (first | (refine wpList_store_mid rfl 38 (.tmp 89) (.tmp 87) rfl (w.heap.size + 1 + 1) 33 #[.int .i64 z.F, .int .i64 z.T, .int .i64 z.V, .int .i64 z.P, .int .i64 z.C] rfl rfl (there_sub HT1.out 33 5 (by decide)) (by kernel_rfl) (by first | rfl | simp [Value.oneCell']) ?_))
        clear HT1
        rw [← HY2.out]
        have HY : Hid (Y2 = Y2) := rfl
        have H := H2
        have HO := HO2
        clear H2 HO2 HY2
        rename World => Y
        have hps := kg17_ps H.out
        have kk := kwhole w.heap.size (w.heap.size + 1) (.slice ao l.length cap) l Y _ _ hps.1
        have HPS : Hid _ := hps
        clear hps
        go_wp2_with fail
        refine kk.mono ?_
        rintro er w1 ⟨nd, rfl, pr, G⟩
        have hps := HPS.out
        have ht1 : w1.there (w.heap.size + 1 + 1) 0 41 := there_block (G.g.block (w.heap.size + 1 + 1) (Nat.lt_of_lt_of_le hm2 hps.2.2) (fun e => by simp only [Option.some.injEq] at e; omega)) hps.2.1
        obtain ⟨u0, hu0⟩ := there_cell ht1 38 (by decide)
        have hf0 := there_free ht1 38 (by decide)
        have hk := ks18 hR2 hm2 hKm H.out pr G
        obtain ⟨Y2, hY2⟩ : ∃ Y2, Y2 = w1.setCell ⟨(w.heap.size + 1 + 1), 38, none⟩ (.int .i64 nd) := ⟨_, rfl⟩
        have H2 : Hid (KG18 w.heap.size (w.heap.size + 1) (.slice ao l.length cap) l (w.heap.size + 1 + 1) V Y2) := by apply hide; rw [hY2]; exact hk.1
        have HO2 : Hid (BxA Y2 w.heap.size 46 zmsg) := by apply hide; rw [hY2]; exact hk.2.box HO.out (by omega) (by omega)
        have HY2 : Hid (Y2 = _) := hY2
        clear hk hY2 kk ht1 hps HPS pr G HY H HO
        go_upto_region 25 with fail
        clear hu0 hf0
        rw [← HY2.out]
        have HY : Hid (Y2 = Y2) := rfl
        have H := H2
        have HO := HO2
        clear H2 HO2 HY2
        rename World => Y
        have hps := kg18_ps H.out
        have hnil := kg18_nil H.out
        obtain ⟨s0, hs0⟩ : ∃ s : Sg2, s = D18 l (0, 0) := ⟨_, rfl⟩
        have ps0 : RP w.heap.size (w.heap.size + 1) (.slice ao l.length cap) l Y s0.1 s0.2 := by rw [hs0]; exact hps.1
        have kc := kcount w.heap.size (w.heap.size + 1) (.slice ao l.length cap) l Y s0.1 s0.2 hlb ps0
        obtain ⟨n, hn⟩ : ∃ n, n = (cS l s0.1 s0.2 1).1 := ⟨_, rfl⟩
        obtain ⟨s1, hs1⟩ : ∃ s : Sg2, s = (cS l s0.1 s0.2 1).2 := ⟨_, rfl⟩
        have hnl : n ≤ 1048576 := by rw [hn]; exact Nat.le_trans (c_le l s0.1 s0.2 ps0.le) hlb
        have e1' : (cS l s0.1 s0.2 1).2.1 = s1.1 := by rw [hs1]
        have e2' : (cS l s0.1 s0.2 1).2.2 = s1.2 := by rw [hs1]
        rw [← hn, e1', e2'] at kc
        have HN : Hid (n = (cS l s0.1 s0.2 1).1 ∧ s1 = (cS l s0.1 s0.2 1).2) := ⟨hn, hs1⟩
        have HS0 : Hid (s0 = D18 l (0, 0)) := hs0
        have HP0 : Hid (RP w.heap.size (w.heap.size + 1) (.slice ao l.length cap) l Y s0.1 s0.2) := ps0
        have hmY : (w.heap.size + 1 + 1) < Y.heap.size := Nat.lt_of_lt_of_le hm2 hps.2.2
        have HPN : Hid _ := And.intro hps hnil
        clear hn hs1 e1' e2' ps0 hs0 hps hnil
        go_wp2_with fail
        refine kc.mono ?_
        rintro er w4 ⟨rfl, hP4, g4⟩
        have HP1 : Hid (RP w.heap.size (w.heap.size + 1) (.slice ao l.length cap) l w4 s1.1 s1.2) := hP4
        have HL4 : Hid (LL (w.heap.size + 1) (w.heap.size + 1 + 1) Y w4 39 (.slice none 0 0)) := LL.start g4 hmY hKm HPN.out.1.2.1 HPN.out.2
        clear hP4 g4 kc HPN
        go_wp2_with fail
        go_loopg [8] n (fun kx vi wr => ∃ (i : Nat) (xs : List Sg) (ya : Option Addr) (yn yc : Nat), vi = .int .i64 (i : Int) ∧ i ≤ n ∧ n - i ≤ kx ∧ Hid (xs.length = i) ∧ Hid (LL (w.heap.size + 1) (w.heap.size + 1 + 1) Y wr 39 (.slice ya yn yc)) ∧ Hid (wr.ownsRow Y.heap.size 38 5 (.slice ya yn yc) i (xs.flatMap cl_seg)) ∧ Hid (∀ x ∈ xs, x.In) ∧ Hid (RP w.heap.size (w.heap.size + 1) (.slice ao l.length cap) l wr (skN (skSeg l) i s1).1 (skN (skSeg l) i s1).2) ∧ Hid (s1.2 = 0 → (skN (skSeg l) i s1).2 = 0 → xs.flatMap r_seg = rd l s1.1 (skN (skSeg l) i s1).1))
        case atStart => exact ⟨0, [], none, 0, 0, rfl, by omega, Nat.le_refl _, rfl, HL4, ⟨rfl, .inl ⟨rfl, rfl⟩⟩, (fun _ h => by cases h), HP1, fun _ _ => by show _ = rd l s1.1 s1.1; simp [rd]⟩
        case round =>
          obtain ⟨i, xs, ya, yn, yc, rfl, hi, hkx, HXL, HLL, HOW, HOK, HP, HBB⟩ := hrel
          clear HL4
          obtain ⟨E, hE⟩ : ∃ E, E = (skN (skSeg l) i s1).2 := ⟨_, rfl⟩
          have HEE : Hid (E = (skN (skSeg l) i s1).2) := hE
          have hks := HP.out.ks
          rw [← hE] at hks
          obtain ⟨c0, c1, c2, cf⟩ := hks.cells
          clear hks hE cf c0 c1
          by_cases hlt : i < n
          · have hltz : (i : Int) < (n : Int) := by omega
            by_cases he : E = 0
            · subst he
              obtain ⟨q, hq⟩ : ∃ q, q = (skN (skSeg l) i s1).1 := ⟨_, rfl⟩
              have HQ : Hid ((q, 0) = skN (skSeg l) i s1) := Prod.ext hq HEE.out
              have hql : ((q, 0) : Sg2).1 ≤ l.length := by rw [hq]; exact HP.out.le
              have rq : RP w.heap.size (w.heap.size + 1) (.slice ao l.length cap) l wr q 0 := by have := HP.out; rw [← hq, ← HEE.out] at this; exact this
              have hSig0 : (false = true → false = true) ∧ (false = false → wr.drew.heap[(w.heap.size + 1 + 1)]? = wr.heap[(w.heap.size + 1 + 1)]?) := ⟨fun h => h, fun _ => rfl⟩
              have hS00 : GK w.heap.size (w.heap.size + 1) (.slice ao l.length cap) l wr wr.drew (q, 0) (fun s => s) [] := GK.id ⟨rq.b, rq.ks, rq.rd, rq.le⟩ ⟨rfl, rfl, rfl, Nat.le_refl _, fun _ _ _ => rfl⟩
              clear hq rq
              go_upto_region 29 with fail
              refine wp_region_invF (β := Value × Value × Value × Value × Value × Value × Value) (fun a0 xq => (((((((a0.put (some 108) (xq.1)).put (some 109) (xq.2.1)).put (some 110) (xq.2.2.1)).put (some 111) (xq.2.2.2.1)).put (some 112) (xq.2.2.2.2.1)).put (some 113) (xq.2.2.2.2.2.1)).put (some 114) (xq.2.2.2.2.2.2))) ?fr108q2 (fun xq d w' => ((d 7 = true → d 1 = true) ∧ (d 7 = false → w'.heap[(w.heap.size + 1 + 1)]? = wr.heap[(w.heap.size + 1 + 1)]?)) ∧ ((d 0 = true → (xq.1) = .pointer (some ⟨w.heap.size + 1 + 1, 39, none⟩)) ∧ (d 1 = true → (xq.2.1) = .slice ya yn yc) ∧ (d 2 = true → (xq.2.2.1) = .pointer (some ⟨w.heap.size + 1, 0, none⟩)) ∧ (d 6 = true → (xq.2.2.2.2.2.2) = .pointer (some ⟨w.heap.size + 1 + 1, 39, none⟩))) ∧ ∃ j : Nat, j ≤ 4 ∧ (d 3 = decide (0 < j) ∧ d 4 = decide (1 < j) ∧ d 5 = decide (2 < j) ∧ d 7 = decide (3 < j)) ∧ ((j = 0 → GK w.heap.size (w.heap.size + 1) (.slice ao l.length cap) l wr w' (q, 0) (fun s => s) []) ∧ (j = 1 → ∃ (x : Sg), (xq.2.2.2.1) = .agg #[.int .i64 x.F, .int .i64 x.T, .int .i64 x.V, .int .i64 x.P, .int .i64 x.C] ∧ (x.In) ∧ GK w.heap.size (w.heap.size + 1) (.slice ao l.length cap) l wr w' (q, 0) (skSeg l) (r_seg x)) ∧ (j = 2 → ∃ (x : Sg) (w2 : World), (xq.2.2.2.1) = .agg #[.int .i64 x.F, .int .i64 x.T, .int .i64 x.V, .int .i64 x.P, .int .i64 x.C] ∧ (xq.2.2.2.2.1) = .slice (some ⟨w2.heap.size, 0, none⟩) 1 1 ∧ ((x.In) ∧ GK w.heap.size (w.heap.size + 1) (.slice ao l.length cap) l wr w2 (q, 0) (skSeg l) (r_seg x)) ∧ w' = w2.alloc (.cells #[.int .i64 x.F, .int .i64 x.T, .int .i64 x.V, .int .i64 x.P, .int .i64 x.C] 38)) ∧ (j = 3 → ∃ (x : Sg) (w2 : World) (a5 : Option Addr) (n5 m5 : Nat), (xq.2.2.2.2.2.1) = .slice a5 n5 m5 ∧ ((x.In) ∧ GK w.heap.size (w.heap.size + 1) (.slice ao l.length cap) l wr w2 (q, 0) (skSeg l) (r_seg x)) ∧ (w'.ownsRow Y.heap.size 38 5 (.slice a5 n5 m5) (i + 1) (xs.flatMap cl_seg ++ cl_seg x) ∧ (w2.alloc (.cells #[.int .i64 x.F, .int .i64 x.T, .int .i64 x.V, .int .i64 x.P, .int .i64 x.C] 38)).grownBy w' (Value.ownBlock (.slice ya yn yc)))) ∧ (j = 4 → ∃ (x : Sg) (w2 w3 : World) (a5 : Option Addr) (n5 m5 : Nat), ((x.In) ∧ GK w.heap.size (w.heap.size + 1) (.slice ao l.length cap) l wr w2 (q, 0) (skSeg l) (r_seg x)) ∧ (w3.ownsRow Y.heap.size 38 5 (.slice a5 n5 m5) (i + 1) (xs.flatMap cl_seg ++ cl_seg x) ∧ (w2.alloc (.cells #[.int .i64 x.F, .int .i64 x.T, .int .i64 x.V, .int .i64 x.P, .int .i64 x.C] 38)).grownBy w3 (Value.ownBlock (.slice ya yn yc))) ∧ w3.heap[(w.heap.size + 1 + 1)]? = wr.heap[(w.heap.size + 1 + 1)]? ∧ w' = w3.setCell ⟨(w.heap.size + 1 + 1), 39, none⟩ (.slice a5 n5 m5)))) ?lay108q2 mixed (by kernel_rfl) ?h0108q2 ?hs108q2 ?he108q2
              case lay108q2 =>
                intro xq
                simp only [Act.put, List.setIfInBounds_toArray, List.set_cons_zero, List.set_cons_succ]
                rfl
              case h0108q2 =>
                refine ⟨(u108, u109, u110, u111, u112, u113, u114), rfl, ?sig108q2, ⟨(fun h => by cases h), (fun h => by cases h), (fun h => by cases h), (fun h => by cases h)⟩, 0, Nat.zero_le _, ⟨rfl, rfl, rfl, rfl⟩, ?S0108q2, (fun h => by cases h), (fun h => by cases h), (fun h => by cases h), (fun h => by cases h)⟩
                case sig108q2 => exact hSig0
                case S0108q2 => exact fun _ => hS00
              case hs108q2 =>
                refine ⟨?_, ?_, ?_, ?_, ?_, ?_, ?_, ?_, trivial⟩
                · rintro d ⟨x108, x109, x110, x111, x112, x113, x114⟩ w' hI hd hdp KQ hK
                  dsimp only at hI
                  obtain ⟨hS, ⟨f0, f1, f2, f6⟩, j, hj, ⟨dd3, dd4, dd5, dd7⟩, ⟨p0, p1, p2, p3, p4⟩⟩ := hI
                  have hd0 := hd
                  have HF : Hid _ := And.intro hS (And.intro (And.intro f0 (And.intro f1 (And.intro f2 f6))) (And.intro hj (And.intro (And.intro dd3 (And.intro dd4 (And.intro dd5 dd7))) (And.intro p0 (And.intro p1 (And.intro p2 (And.intro p3 p4)))))))
                  clear hS f0 f1 f2 f6 hj dd3 dd4 dd5 dd7 p0 p1 p2 p3 p4 hdp hd
                  refine Opn.mk ?_
                  dsimp only
                  go_simp
                  obtain ⟨hS, ⟨f0, f1, f2, f6⟩, hj, ⟨dd3, dd4, dd5, dd7⟩, ⟨p0, p1, p2, p3, p4⟩⟩ := HF.out
                  exact hK.out (.pointer (some ⟨w.heap.size + 1 + 1, 39, none⟩), x109, x110, x111, x112, x113, x114) _ ⟨⟨fun h => (upd_no (by decide)).trans (hS.1 (upd_ne h (by decide))), fun h => hS.2 (by rw [upd_no (by decide)] at h; exact h)⟩, ⟨(fun _ => rfl), (fun h => f1 (upd_ne h (by decide))), (fun h => f2 (upd_ne h (by decide))), (fun h => f6 (upd_ne h (by decide)))⟩, j, hj, ⟨((upd_no (by decide)).trans dd3), ((upd_no (by decide)).trans dd4), ((upd_no (by decide)).trans dd5), ((upd_no (by decide)).trans dd7)⟩, ⟨p0, p1, p2, p3, p4⟩⟩
                · rintro d ⟨x108, x109, x110, x111, x112, x113, x114⟩ w' hI hd hdp KQ hK
                  dsimp only at hI
                  obtain ⟨hS, ⟨f0, f1, f2, f6⟩, j, hj, ⟨dd3, dd4, dd5, dd7⟩, ⟨p0, p1, p2, p3, p4⟩⟩ := hI
                  obtain rfl := f0 (hdp 0 (by decide +kernel))
                  have h9 : d 7 = false := by
                    cases h : d 7 with
                    | false => rfl
                    | true => exact absurd (hS.1 h) (by rw [hd]; decide)
                  have c5 : w'.cell? ⟨(w.heap.size + 1 + 1), 39, none⟩ = some (.slice ya yn yc) := by
                    rw [cell_block (hS.2 h9)]
                    have := HLL.out.rg 0 _ rfl
                    rwa [Nat.add_zero] at this
                  have hd0 := hd
                  have HF : Hid _ := And.intro hS (And.intro (And.intro f0 (And.intro f1 (And.intro f2 f6))) (And.intro hj (And.intro (And.intro dd3 (And.intro dd4 (And.intro dd5 dd7))) (And.intro p0 (And.intro p1 (And.intro p2 (And.intro p3 p4)))))))
                  clear hS f0 f1 f2 f6 hj dd3 dd4 dd5 dd7 p0 p1 p2 p3 p4 hdp hd
                  refine Opn.mk ?_
                  dsimp only
                  go_simp
                  obtain ⟨hS, ⟨f0, f1, f2, f6⟩, hj, ⟨dd3, dd4, dd5, dd7⟩, ⟨p0, p1, p2, p3, p4⟩⟩ := HF.out
                  exact hK.out (.pointer (some ⟨w.heap.size + 1 + 1, 39, none⟩), .slice ya yn yc, x110, x111, x112, x113, x114) _ ⟨⟨fun h => by simp [upd], fun h => hS.2 (by rw [upd_no (by decide)] at h; exact h)⟩, ⟨(fun _ => rfl), (fun _ => rfl), (fun h => f2 (upd_ne h (by decide))), (fun h => f6 (upd_ne h (by decide)))⟩, j, hj, ⟨((upd_no (by decide)).trans dd3), ((upd_no (by decide)).trans dd4), ((upd_no (by decide)).trans dd5), ((upd_no (by decide)).trans dd7)⟩, ⟨p0, p1, p2, p3, p4⟩⟩
                · rintro d ⟨x108, x109, x110, x111, x112, x113, x114⟩ w' hI hd hdp KQ hK
                  dsimp only at hI
                  obtain ⟨hS, ⟨f0, f1, f2, f6⟩, j, hj, ⟨dd3, dd4, dd5, dd7⟩, ⟨p0, p1, p2, p3, p4⟩⟩ := hI
                  have hd0 := hd
                  have HF : Hid _ := And.intro hS (And.intro (And.intro f0 (And.intro f1 (And.intro f2 f6))) (And.intro hj (And.intro (And.intro dd3 (And.intro dd4 (And.intro dd5 dd7))) (And.intro p0 (And.intro p1 (And.intro p2 (And.intro p3 p4)))))))
                  clear hS f0 f1 f2 f6 hj dd3 dd4 dd5 dd7 p0 p1 p2 p3 p4 hdp hd
                  refine Opn.mk ?_
                  dsimp only
                  go_simp
                  obtain ⟨hS, ⟨f0, f1, f2, f6⟩, hj, ⟨dd3, dd4, dd5, dd7⟩, ⟨p0, p1, p2, p3, p4⟩⟩ := HF.out
                  exact hK.out (x108, x109, .pointer (some ⟨w.heap.size + 1, 0, none⟩), x111, x112, x113, x114) _ ⟨⟨fun h => (upd_no (by decide)).trans (hS.1 (upd_ne h (by decide))), fun h => hS.2 (by rw [upd_no (by decide)] at h; exact h)⟩, ⟨(fun h => f0 (upd_ne h (by decide))), (fun h => f1 (upd_ne h (by decide))), (fun _ => rfl), (fun h => f6 (upd_ne h (by decide)))⟩, j, hj, ⟨((upd_no (by decide)).trans dd3), ((upd_no (by decide)).trans dd4), ((upd_no (by decide)).trans dd5), ((upd_no (by decide)).trans dd7)⟩, ⟨p0, p1, p2, p3, p4⟩⟩
                · rintro d ⟨x108, x109, x110, x111, x112, x113, x114⟩ w' hI hd hdp KQ hK
                  dsimp only at hI
                  obtain ⟨hS, ⟨f0, f1, f2, f6⟩, j, hj, ⟨dd3, dd4, dd5, dd7⟩, ⟨p0, p1, p2, p3, p4⟩⟩ := hI
                  obtain rfl := f2 (hdp 2 (by decide +kernel))
                  obtain rfl := ph_zero dd3 hd
                  have s := p0 rfl
                  clear p0 p1 p2 p3 p4 hj
                  have G := s
                  clear s
                  have kk := kseg w.heap.size (w.heap.size + 1) (.slice ao l.length cap) l w' _ _ hlb G.ps
                  have HG : Hid _ := And.intro hS G
                  clear hS G
                  have HF : Hid _ := And.intro (And.intro f0 (And.intro f1 (And.intro f2 f6))) (And.intro dd3 (And.intro dd4 (And.intro dd5 dd7)))
                  clear f0 f1 f2 f6 dd3 dd4 dd5 dd7 hdp hd
                  refine Opn.mk ?_
                  dsimp only
                  go_simp
                  go_wp2_with (first | (go_at_call 64; with_reducible refine kk.mono ?_; rintro e5 w5 ⟨x, rfl, ix, G5⟩))
                  obtain ⟨hS, G⟩ := HG.out
                  obtain ⟨⟨f0, f1, f2, f6⟩, ⟨dd3, dd4, dd5, dd7⟩⟩ := HF.out
                  refine hK.out (x108, x109, .pointer (some ⟨w.heap.size + 1, 0, none⟩), .agg #[.int .i64 x.F, .int .i64 x.T, .int .i64 x.V, .int .i64 x.P, .int .i64 x.C], x112, x113, x114) _ ⟨?sg, ⟨(fun h => f0 (upd_ne h (by decide))), (fun h => f1 (upd_ne h (by decide))), (fun _ => rfl), (fun h => f6 (upd_ne h (by decide)))⟩, 1, by decide, ⟨(by simp [upd]), ((upd_no (by decide)).trans (dd4.trans (by decide))), ((upd_no (by decide)).trans (dd5.trans (by decide))), ((upd_no (by decide)).trans (dd7.trans (by decide)))⟩, ⟨(fun h => absurd h (by decide)), (fun _ => ?new), (fun h => absurd h (by decide)), (fun h => absurd h (by decide)), (fun h => absurd h (by decide))⟩⟩
                  case sg => exact ⟨fun h => (upd_no (by decide)).trans (hS.1 (upd_ne h (by decide))), fun h => by rw [G5.g.block (w.heap.size + 1 + 1) (Nat.lt_of_lt_of_le (Nat.lt_of_lt_of_le hmY HLL.out.size) G.g.size) (fun e => by simp only [Option.some.injEq] at e; omega)]; exact (hS.2 (by rw [upd_no (by decide)] at h; exact h))⟩
                  case new =>
                    have GC := GK.comp hql (fwd_id l) (fwd_seg l) G G5
                    exact ⟨x, rfl, ix, ⟨GC.ps, GC.g, GC.b⟩⟩
                · rintro d ⟨x108, x109, x110, x111, x112, x113, x114⟩ w' hI hd hdp KQ hK
                  dsimp only at hI
                  obtain ⟨hS, ⟨f0, f1, f2, f6⟩, j, hj, ⟨dd3, dd4, dd5, dd7⟩, ⟨p0, p1, p2, p3, p4⟩⟩ := hI
                  obtain rfl := ph_eq (k := 0) dd4 hd dd3 (hdp 3 (by decide +kernel))
                  have s := p1 rfl
                  clear p0 p1 p2 p3 p4 hj
                  obtain ⟨x, rfl, F1⟩ := s
                  have HG : Hid _ := And.intro hS F1
                  clear hS F1
                  have HF : Hid _ := And.intro (And.intro f0 (And.intro f1 (And.intro f2 f6))) (And.intro dd3 (And.intro dd4 (And.intro dd5 dd7)))
                  clear f0 f1 f2 f6 dd3 dd4 dd5 dd7 hdp hd
                  refine Opn.mk ?_
                  dsimp only
                  go_simp
                  obtain ⟨hS, F1⟩ := HG.out
                  obtain ⟨⟨f0, f1, f2, f6⟩, ⟨dd3, dd4, dd5, dd7⟩⟩ := HF.out
                  refine hK.out (x108, x109, x110, .agg #[.int .i64 x.F, .int .i64 x.T, .int .i64 x.V, .int .i64 x.P, .int .i64 x.C], (.slice (some ⟨w'.heap.size, 0, none⟩) 1 1), x113, x114) _ ⟨?sg, ⟨(fun h => f0 (upd_ne h (by decide))), (fun h => f1 (upd_ne h (by decide))), (fun h => f2 (upd_ne h (by decide))), (fun h => f6 (upd_ne h (by decide)))⟩, 2, by decide, ⟨((upd_no (by decide)).trans (dd3.trans (by decide))), (by simp [upd]), ((upd_no (by decide)).trans (dd5.trans (by decide))), ((upd_no (by decide)).trans (dd7.trans (by decide)))⟩, ⟨(fun h => absurd h (by decide)), (fun h => absurd h (by decide)), (fun _ => ?new), (fun h => absurd h (by decide)), (fun h => absurd h (by decide))⟩⟩
                  case sg => exact ⟨fun h => (upd_no (by decide)).trans (hS.1 (upd_ne h (by decide))), fun h => by rw [Below.heap_alloc _ _ _ (Nat.lt_of_lt_of_le (Nat.lt_of_lt_of_le hmY HLL.out.size) F1.2.g.size)]; exact (hS.2 (by rw [upd_no (by decide)] at h; exact h))⟩
                  case new =>
                    exact ⟨x, w', rfl, rfl, F1, rfl⟩
                · rintro d ⟨x108, x109, x110, x111, x112, x113, x114⟩ w' hI hd hdp KQ hK
                  dsimp only at hI
                  obtain ⟨hS, ⟨f0, f1, f2, f6⟩, j, hj, ⟨dd3, dd4, dd5, dd7⟩, ⟨p0, p1, p2, p3, p4⟩⟩ := hI
                  obtain rfl := f1 (hdp 1 (by decide +kernel))
                  obtain rfl := ph_eq (k := 1) dd5 hd dd4 (hdp 4 (by decide +kernel))
                  have s := p2 rfl
                  clear p0 p1 p2 p3 p4 hj
                  obtain ⟨x, w2, rfl, rfl, F1, rfl⟩ := s
                  have HG : Hid _ := And.intro hS F1
                  have HOW2 : Hid (w2.ownsRow Y.heap.size 38 5 (.slice ya yn yc) i (xs.flatMap cl_seg)) := (HP.out.ktt F1.2.g).own HOW.out (by decide)
                  have hsz2 : Y.heap.size ≤ w2.heap.size := Nat.le_trans HLL.out.size F1.2.g.size
                  clear hS F1
                  have HF : Hid _ := And.intro (And.intro f0 (And.intro f1 (And.intro f2 f6))) (And.intro dd3 (And.intro dd4 (And.intro dd5 dd7)))
                  clear f0 f1 f2 f6 dd3 dd4 dd5 dd7 hdp hd
                  refine Opn.mk ?_
                  dsimp only
                  rw [if_pos (show Region.wanted _ _ = true from rfl)]
                  refine wp_appF (.tmp 109) (.tmp 112) 43 rfl Y.heap.size 38 j0 (.agg #[.int .i64 0, .int .i64 0, .int .i64 0, .int .i64 0, .int .i64 0]) 5 40 Try.underlying43 hj0 jz0 jz1 jz2 rfl (by decide) (.slice ya yn yc) i (xs.flatMap cl_seg) rfl (World.ownsRow.alloc HOW2.out (.cells #[.int .i64 x.F, .int .i64 x.T, .int .i64 x.V, .int .i64 x.P, .int .i64 x.C] 38)) ⟨w2.heap.size, 0, none⟩ 1 1 (cl_seg x) rfl (lit_rds' w2 _ 38 _ rfl) (fun u hu => by simp [cl_seg] at hu; rcases hu with rfl | rfl | rfl | rfl | rfl <;> rfl) (by unfold maxLen; omega) (by omega) (Nat.le_trans hsz2 (by simp)) ?_
                  intro v3 w3 o3 g3 _
                  obtain ⟨a5, n5, m5, rfl⟩ := own_sl o3
                  obtain ⟨hS, F1⟩ := HG.out
                  obtain ⟨⟨f0, f1, f2, f6⟩, ⟨dd3, dd4, dd5, dd7⟩⟩ := HF.out
                  refine hK.out (x108, .slice ya yn yc, x110, .agg #[.int .i64 x.F, .int .i64 x.T, .int .i64 x.V, .int .i64 x.P, .int .i64 x.C], (.slice (some ⟨w2.heap.size, 0, none⟩) 1 1), .slice a5 n5 m5, x114) _ ⟨?sg, ⟨(fun h => f0 (upd_ne h (by decide))), (fun _ => rfl), (fun h => f2 (upd_ne h (by decide))), (fun h => f6 (upd_ne h (by decide)))⟩, 3, by decide, ⟨((upd_no (by decide)).trans (dd3.trans (by decide))), ((upd_no (by decide)).trans (dd4.trans (by decide))), (by simp [upd]), ((upd_no (by decide)).trans (dd7.trans (by decide)))⟩, ⟨(fun h => absurd h (by decide)), (fun h => absurd h (by decide)), (fun h => absurd h (by decide)), (fun _ => ?new), (fun h => absurd h (by decide))⟩⟩
                  case sg => exact ⟨fun h => (upd_no (by decide)).trans (hS.1 (upd_ne h (by decide))), fun h => by rw [g3.block (w.heap.size + 1 + 1) (by have := Nat.lt_of_lt_of_le (Nat.lt_of_lt_of_le hmY HLL.out.size) F1.2.g.size; simp; omega) (fun e => by have := (World.ownsRow.lt HOW2.out _ e.symm).1; omega)]; exact (hS.2 (by rw [upd_no (by decide)] at h; exact h))⟩
                  case new =>
                    exact ⟨x, w2, a5, n5, m5, rfl, F1, o3, g3⟩
                · rintro d ⟨x108, x109, x110, x111, x112, x113, x114⟩ w' hI hd hdp KQ hK
                  dsimp only at hI
                  obtain ⟨hS, ⟨f0, f1, f2, f6⟩, j, hj, ⟨dd3, dd4, dd5, dd7⟩, ⟨p0, p1, p2, p3, p4⟩⟩ := hI
                  have hd0 := hd
                  have HF : Hid _ := And.intro hS (And.intro (And.intro f0 (And.intro f1 (And.intro f2 f6))) (And.intro hj (And.intro (And.intro dd3 (And.intro dd4 (And.intro dd5 dd7))) (And.intro p0 (And.intro p1 (And.intro p2 (And.intro p3 p4)))))))
                  clear hS f0 f1 f2 f6 hj dd3 dd4 dd5 dd7 p0 p1 p2 p3 p4 hdp hd
                  refine Opn.mk ?_
                  dsimp only
                  go_simp
                  obtain ⟨hS, ⟨f0, f1, f2, f6⟩, hj, ⟨dd3, dd4, dd5, dd7⟩, ⟨p0, p1, p2, p3, p4⟩⟩ := HF.out
                  exact hK.out (x108, x109, x110, x111, x112, x113, .pointer (some ⟨w.heap.size + 1 + 1, 39, none⟩)) _ ⟨⟨fun h => (upd_no (by decide)).trans (hS.1 (upd_ne h (by decide))), fun h => hS.2 (by rw [upd_no (by decide)] at h; exact h)⟩, ⟨(fun h => f0 (upd_ne h (by decide))), (fun h => f1 (upd_ne h (by decide))), (fun h => f2 (upd_ne h (by decide))), (fun _ => rfl)⟩, j, hj, ⟨((upd_no (by decide)).trans dd3), ((upd_no (by decide)).trans dd4), ((upd_no (by decide)).trans dd5), ((upd_no (by decide)).trans dd7)⟩, ⟨p0, p1, p2, p3, p4⟩⟩
                · rintro d ⟨x108, x109, x110, x111, x112, x113, x114⟩ w' hI hd hdp KQ hK
                  dsimp only at hI
                  obtain ⟨hS, ⟨f0, f1, f2, f6⟩, j, hj, ⟨dd3, dd4, dd5, dd7⟩, ⟨p0, p1, p2, p3, p4⟩⟩ := hI
                  obtain rfl := f6 (hdp 6 (by decide +kernel))
                  obtain rfl := ph_eq (k := 2) dd7 hd dd5 (hdp 5 (by decide +kernel))
                  have s := p3 rfl
                  clear p0 p1 p2 p3 p4 hj
                  have hd1 : d 1 = true := hdp 1 (by decide +kernel)
                  obtain ⟨x, w2, a5, n5, m5, rfl, F1, N1⟩ := s
                  have hb := hS.2 hd
                  have z5 : w'.cell? ⟨(w.heap.size + 1 + 1), 39, none⟩ = some (.slice ya yn yc) := by
                    rw [cell_block hb]
                    have := HLL.out.rg 0 _ rfl
                    rwa [Nat.add_zero] at this
                  have q5 : w'.frozen? ⟨(w.heap.size + 1 + 1), 39, none⟩ = false := by rw [frozen_block hb]; exact there_free HLL.out.th 39 (by decide)
                  have HG : Hid _ := And.intro hb (And.intro F1 (And.intro N1 hd1))
                  clear hS F1 N1 hb hd1
                  have HF : Hid _ := And.intro (And.intro f0 (And.intro f1 (And.intro f2 f6))) (And.intro dd3 (And.intro dd4 (And.intro dd5 dd7)))
                  clear f0 f1 f2 f6 dd3 dd4 dd5 dd7 hdp hd
                  refine Opn.mk ?_
                  dsimp only
                  go_simp
                  obtain ⟨hb, F1, N1, hd1⟩ := HG.out
                  obtain ⟨⟨f0, f1, f2, f6⟩, ⟨dd3, dd4, dd5, dd7⟩⟩ := HF.out
                  refine hK.out (x108, x109, x110, x111, x112, .slice a5 n5 m5, .pointer (some ⟨w.heap.size + 1 + 1, 39, none⟩)) _ ⟨?sg, ⟨(fun h => f0 (upd_ne h (by decide))), (fun h => f1 (upd_ne h (by decide))), (fun h => f2 (upd_ne h (by decide))), (fun _ => rfl)⟩, 4, by decide, ⟨((upd_no (by decide)).trans (dd3.trans (by decide))), ((upd_no (by decide)).trans (dd4.trans (by decide))), ((upd_no (by decide)).trans (dd5.trans (by decide))), (by simp [upd])⟩, ⟨(fun h => absurd h (by decide)), (fun h => absurd h (by decide)), (fun h => absurd h (by decide)), (fun h => absurd h (by decide)), (fun _ => ?new)⟩⟩
                  case sg => exact ⟨fun _ => (upd_no (by decide)).trans hd1, fun h => by simp [upd] at h⟩
                  case new =>
                    exact ⟨x, w2, w', a5, n5, m5, F1, N1, hb, rfl⟩
              case he108q2 =>
                rintro d ⟨x108, x109, x110, x111, x112, x113, x114⟩ w' hall hI
                dsimp only at hI
                obtain ⟨hS, ⟨f0, f1, f2, f6⟩, j, hj, ⟨dd3, dd4, dd5, dd7⟩, ⟨p0, p1, p2, p3, p4⟩⟩ := hI
                obtain rfl := ph_end (k := 3) hj dd7 (hall 7 (by decide))
                have s := p4 rfl
                clear hall hj f0 f1 f2 f6 dd3 dd4 dd5 dd7 p0 p1 p2 p3 p4
                obtain ⟨x, w2, w3, a5, n5, m5, ⟨ix, G1⟩, ⟨o3, g3⟩, hb3, rfl⟩ := s
                have HF : Hid _ := And.intro ix (And.intro G1 (And.intro o3 (And.intro g3 hb3)))
                clear ix G1 o3 g3 hb3 hS
                dsimp only
                go_wp2_with fail
                go_roundg (n - (i + 1))
                case measure => omega
                case rel =>
                  obtain ⟨ix, G1, o3, g3, hb3⟩ := HF.out
                  have HOW2 := (HP.out.ktt G1.g).own HOW.out (by decide)
                  have hrl : ∀ g, Value.ownBlock (.slice ya yn yc) = some g → Y.heap.size ≤ g ∧ g < wr.heap.size := fun g hg => World.ownsRow.lt HOW.out g hg
                  have gA : w2.grownBy w3 (Value.ownBlock (.slice ya yn yc)) := grown_trans' (grown_alloc _ _ _) g3
                  have hsz2 := G1.g.size
                  have hszY := HLL.out.size
                  have bA : Below ((w.heap.size + 1) + 1) w2 w3 := ⟨gA.os, gA.tape, gA.output, gA.size, fun j hj => gA.block j (by omega) (fun e => by have := hrl j e.symm; omega)⟩
                  have HS2 : skSeg l (q, 0) = skN (skSeg l) (i + 1) s1 := by rw [skN_succ, ← HQ.out]
                  refine ⟨i + 1, xs ++ [x], a5, n5, m5, by go_num, by omega, Nat.le_refl _, by apply hide; simp [HXL.out], ?_, ?_, ?_, ?_, ?_⟩
                  · refine LL.step (w3 := w3) HLL.out (.slice a5 n5 m5) (gA.os.trans G1.g.os) (gA.tape.trans G1.g.tape) (gA.output.trans G1.g.output) (Nat.le_trans hsz2 gA.size) (fun j h1 h2 => ?_) hmY hKm (by decide)
                    rw [gA.block j (by omega) (fun e => by have := (hrl j e.symm).1; omega)]
                    exact G1.g.block j (by omega) (fun e => by simp only [Option.some.injEq] at e; omega)
                  · apply hide
                    have := (Win.grow (own_win o3) (grown_setCell (w := w3) (R := (w.heap.size + 1 + 1)) (j := 39) (u := .slice a5 n5 m5)) (by omega)).now
                    simpa using this
                  · intro y hy
                    rcases List.mem_append.1 hy with hy | hy
                    · exact HOK.out y hy
                    · simp at hy
                      subst hy
                      exact ix
                  · apply hide
                    rw [← HS2]
                    exact (G1.ps.keep bA).keep (grown_above grown_setCell (by omega) (by have := gA.size; omega))
                  · intro h0 h2
                    have hle1 := (fwd_n (fwd_seg l) i).le s1 HP1.out.le
                    have hq0 : (skN (skSeg l) i s1).2 = 0 := by rw [← HQ.out]
                    have hq1 : (skN (skSeg l) i s1).1 = q := by rw [← HQ.out]
                    rw [List.flatMap_append, HBB.out h0 hq0]
                    rw [← HS2] at h2 ⊢
                    simp only [List.flatMap_cons, List.flatMap_nil, List.append_nil]
                    have hb := G1.b rfl h2
                    rw [hq1] at hle1 ⊢
                    exact (congrArg (rd l s1.1 q ++ ·) hb).trans (rd_app l hle1.1 ((fwd_seg l).le (q, 0) hle1.2).1).symm
            · have hE2 : ((E : Int) == 0) = false := by simpa using he
              have es : D19 l (0, 0) = skN (skSeg l) i s1 := by
                show skL l (skSeg l) (D18 l (0, 0)) = _
                rw [← HS0.out]
                show skN (skSeg l) (cS l s0.1 s0.2 1).1 (cS l s0.1 s0.2 1).2 = _
                rw [← HN.out.1, ← HN.out.2, show n = i + (n - i) by omega, skN_add]
                exact skN_stay (fwd_seg l).stay _ _ (by rw [← HEE.out]; exact he)
              have hk := ks19 hR2 hm2 H.out (w1 := wr) HOK.out (by
                have w1 : Win Y.heap.size wr (fun w => Fi.RdsK 5 w (.slice ya yn yc) xs.length (xs.flatMap cl_seg)) := by rw [HXL.out]; exact (own_win HOW.out).imp fun _ r => Fi.RdsK.of_own r
                exact w1) HLL.out (by rw [es]; exact HP.out) (by
                intro h0 h2
                rw [es] at h2 ⊢
                rw [← HS0.out] at h0 ⊢
                exact absurd h2 (by rw [← HEE.out]; exact he))
              have H2 : Hid (KG19 w.heap.size (w.heap.size + 1) (.slice ao l.length cap) l (w.heap.size + 1 + 1) V wr) := hk
              have HO2 : Hid (BxA wr w.heap.size 46 zmsg) := HLL.out.sk.box HO.out (by omega) (by omega)
              clear hk es HLL HOW HOK HXL HBB HP H HO HS0 HN HP0 HP1 hmY
              go_upto_region 30 with fail
              clear c2 hlt hltz hE2 he
              rename World => Y
              have H := H2
              have HO := HO2
              clear H2 HO2
              have HY : Hid (Y = Y) := rfl
              have hps := kg19_ps H.out
              have kk := kgroups w.heap.size (w.heap.size + 1) (.slice ao l.length cap) l Y _ _ hlb hps.1
              have HPS : Hid _ := hps
              clear hps
              go_wp2_with fail
              refine kk.mono ?_
              rintro er w1 ⟨gv, gs, rfl, ow, ix, G⟩
              obtain ⟨xa, xn, xc, rfl⟩ := own_sl ow
              have wn := ((own_win ow).both (Win.all fun x hx => (ix x hx).win)).imp fun _ r => And.intro (Fi.RdsK.of_own r.1) (fun x hx => (r.2 x hx).ok)
              have pr := True.intro
              have hps := HPS.out
              have ht1 : w1.there (w.heap.size + 1 + 1) 0 41 := there_block (G.g.block (w.heap.size + 1 + 1) (Nat.lt_of_lt_of_le hm2 hps.2.2) (fun e => by simp only [Option.some.injEq] at e; omega)) hps.2.1
              obtain ⟨u0, hu0⟩ := there_cell ht1 40 (by decide)
              have hf0 := there_free ht1 40 (by decide)
              have hk := ks20 hR2 hm2 hKm H.out pr wn G
              obtain ⟨Y2, hY2⟩ : ∃ Y2, Y2 = w1.setCell ⟨(w.heap.size + 1 + 1), 40, none⟩ (.slice xa xn xc) := ⟨_, rfl⟩
              have H2 : Hid (KG20 w.heap.size (w.heap.size + 1) (.slice ao l.length cap) l (w.heap.size + 1 + 1) V Y2) := by apply hide; rw [hY2]; exact hk.1
              have HO2 : Hid (BxA Y2 w.heap.size 46 zmsg) := by apply hide; rw [hY2]; exact hk.2.box HO.out (by omega) (by omega)
              have HY2 : Hid (Y2 = _) := hY2
              clear hk hY2 kk ht1 hps HPS pr G HY H HO wn ow ix
              go_upto_region 31 with fail
              clear hu0 hf0
              rw [← HY2.out]
              have HY : Hid (Y2 = Y2) := rfl
              have H := H2
              have HO := HO2
              clear H2 HO2 HY2
              rename World => Y
              obtain ⟨m, C, FN⟩ := kg20_fin H.out
              have kE := end_k Y (w.heap.size + 1) (.slice ao l.length cap) l _ _ FN.ps.ks FN.ps.rd.1
              have hG : gcode l = en l (D20 l (0, 0)).1 (D20 l (0, 0)).2 := by unfold gcode; rw [D_msg]
              rw [← hG] at kE
              have bel : Below w.heap.size w Y := HBW.out.trans (FN.bel _ (by omega) (by omega) (by omega))
              have i1 : (Try.prog.info? 46).map (·.size) = some C.length := by rw [FN.len]; exact Try.msg_info
              have i2 : (Try.prog.info? 46).map (·.size) = some C.toArray.size := by rw [List.size_toArray]; exact i1
              have i3 : zmsg.size = C.toArray.size := by
                have h41 : C.toArray.size = 41 := by rw [List.size_toArray]; exact FN.len
                rw [h41]
                rfl
              have HF : Hid _ := FN
              have HG : Hid _ := hG
              have HBL : Hid (Below w.heap.size w Y) := bel
              have HI : Hid _ := And.intro i1 (And.intro i2 i3)
              obtain ⟨E, hE⟩ : ∃ E, E = gcode l := ⟨_, rfl⟩
              rw [← hE] at kE
              have HE : Hid (E = gcode l) := hE
              clear hG bel hE FN i1 i2 i3 H
              by_cases h0 : E = 0
              · subst h0
                have hl2 : ¬ (1048576 : Int) < (l.length : Int) := by omega
                have hl3 : decide ((1048576 : Int) < (l.length : Int)) = false := decide_eq_false hl2
                go_wp2_with fail
                refine kE.mono ?_
                rintro e w2 ⟨rfl, nq, rfl⟩
                go_wp2_with (first | (refine wpList_load_mid rfl 46 (.tmp 5) rfl (w.heap.size + 1 + 1) 0 rfl C _ (w := Y.drewN nq) HF.out.rg Try.underlying46 rfl HI.out.1 ?_) | (refine wpList_store_row rfl 46 (.tmp 2) (.tmp 131) rfl w.heap.size 46 zmsg C.toArray HO.out rfl rfl HI.out.2.1 HI.out.2.2 HF.out.all ?_))
                refine bodyPost_ret (results_two rfl _ _ w.heap.size 46 C.toArray _ (.int .i64 0) rfl rfl (setRow_heap _ _ _ _ _ _ HO.out) Try.underlying46 rfl HI.out.2.1) rfl ?_
                have gY := setRow_grown (Y.drewN nq) w.heap.size C.toArray
                have e0 : gcode l = 0 := HE.out.symm
                refine ⟨(below_drewN HBL.out nq).trans (grown_above gY (Nat.le_refl _) (BxA.lt HO.out)), m, ?_, ((HF.out.ok.up (w' := Y.drewN nq) (Nat.le_refl _) (fun _ _ _ => rfl)).grow gY (by have := HZV.out; omega)).now, fun _ => ?_, fun h => absurd e0 h⟩
                · rw [e0, HF.out.eq]
                  rfl
                · have hg0 : en l (D20 l (0, 0)).1 (D20 l (0, 0)).2 = 0 := by rw [← HG.out]; exact e0
                  have hle := HF.out.ps.le
                  have hby := HF.out.by'
                  obtain ⟨s, hs⟩ : ∃ s, s = D20 l (0, 0) := ⟨_, rfl⟩
                  rw [← hs] at hg0 hle hby
                  unfold en at hg0
                  by_cases he : s.2 = 0
                  · rw [if_neg (by rw [he]; decide)] at hg0
                    by_cases hp : s.1 < l.length
                    · rw [if_pos hp] at hg0; cases hg0
                    · rw [hby he, show s.1 = l.length by omega]
                      simp [rd]
                  · rw [if_pos he] at hg0
                    exact absurd hg0 he
              · have hE1 : ¬ (E : Int) = 0 := by omega
                have hE2 : ((E : Int) == 0) = false := by simpa using h0
                have hE3 : ((E : Int) != 0) = true := by simp [bne, hE2]
                go_wp2_with fail
                refine kE.mono ?_
                rintro e w2 ⟨rfl, nq, rfl⟩
                go_wp2_with (first | (refine wpList_store_row rfl 46 (.tmp 2) (.tmp 129) rfl w.heap.size 46 zmsg zmsg HO.out rfl rfl Try.msg_info rfl zmsg_all ?_))
                refine bodyPost_ret (results_two rfl _ _ w.heap.size 46 zmsg _ (.int .i64 (E : Int)) rfl rfl (setRow_heap _ _ _ _ _ _ HO.out) Try.underlying46 rfl Try.msg_info) rfl ?_
                have gY := setRow_grown (Y.drewN nq) w.heap.size zmsg
                refine ⟨(below_drewN HBL.out nq).trans (grown_above gY (Nat.le_refl _) (BxA.lt HO.out)), zeroM, ?_, zeroM_ok _, fun h => absurd (HE.out.trans h) h0, fun _ => rfl⟩
                rw [← HE.out]
                rfl
          · have hltz : ¬ (i : Int) < (n : Int) := by omega
            obtain rfl : i = n := by omega
            have es : D19 l (0, 0) = skN (skSeg l) i s1 := by
              show skL l (skSeg l) (D18 l (0, 0)) = _
              rw [← HS0.out]
              show skN (skSeg l) (cS l s0.1 s0.2 1).1 (cS l s0.1 s0.2 1).2 = _
              rw [← HN.out.1, ← HN.out.2]
            have hk := ks19 hR2 hm2 H.out (w1 := wr) HOK.out (by
              have w1 : Win Y.heap.size wr (fun w => Fi.RdsK 5 w (.slice ya yn yc) xs.length (xs.flatMap cl_seg)) := by rw [HXL.out]; exact (own_win HOW.out).imp fun _ r => Fi.RdsK.of_own r
              exact w1) HLL.out (by rw [es]; exact HP.out) (by
              intro h0 h2
              rw [es] at h2 ⊢
              rw [← HS0.out] at h0 ⊢
              have hs0 : s1.2 = 0 := Classical.byContradiction fun hn0 => by
                rw [skN_stay (fwd_seg l).stay _ _ hn0] at h2
                exact hn0 h2
              have hc0 : (skC l s0).2 = 0 := by show (cS l s0.1 s0.2 1).2.2 = 0; rw [← HN.out.2]; exact hs0
              have hcb := c_bytes l s0 h0 hc0
              have hle0 := (fwd_c l).le s0 HP0.out.le
              have hle1 := (fwd_n (fwd_seg l) i).le s1 HP1.out.le
              have e1 : (skC l s0).1 = s1.1 := by show (cS l s0.1 s0.2 1).2.1 = _; rw [← HN.out.2]
              have e4 : Num.uv i = rd l s0.1 s1.1 := by
                have := hcb.1
                rw [e1] at this
                rw [HN.out.1]
                exact this
              rw [e1] at hle0
              rw [HXL.out, HBB.out hs0 h2, e4]
              exact (rd_app l hle0.1 hle1.1).symm)
            have H2 : Hid (KG19 w.heap.size (w.heap.size + 1) (.slice ao l.length cap) l (w.heap.size + 1 + 1) V wr) := hk
            have HO2 : Hid (BxA wr w.heap.size 46 zmsg) := HLL.out.sk.box HO.out (by omega) (by omega)
            clear hk es HLL HOW HOK HXL HBB HP H HO HS0 HN HP0 HP1 hmY
            go_upto_region 30 with fail
            clear c2 hlt hltz
            rename World => Y
            have H := H2
            have HO := HO2
            clear H2 HO2
            have HY : Hid (Y = Y) := rfl
            have hps := kg19_ps H.out
            have kk := kgroups w.heap.size (w.heap.size + 1) (.slice ao l.length cap) l Y _ _ hlb hps.1
            have HPS : Hid _ := hps
            clear hps
            go_wp2_with fail
            refine kk.mono ?_
            rintro er w1 ⟨gv, gs, rfl, ow, ix, G⟩
            obtain ⟨xa, xn, xc, rfl⟩ := own_sl ow
            have wn := ((own_win ow).both (Win.all fun x hx => (ix x hx).win)).imp fun _ r => And.intro (Fi.RdsK.of_own r.1) (fun x hx => (r.2 x hx).ok)
            have pr := True.intro
            have hps := HPS.out
            have ht1 : w1.there (w.heap.size + 1 + 1) 0 41 := there_block (G.g.block (w.heap.size + 1 + 1) (Nat.lt_of_lt_of_le hm2 hps.2.2) (fun e => by simp only [Option.some.injEq] at e; omega)) hps.2.1
            obtain ⟨u0, hu0⟩ := there_cell ht1 40 (by decide)
            have hf0 := there_free ht1 40 (by decide)
            have hk := ks20 hR2 hm2 hKm H.out pr wn G
            obtain ⟨Y2, hY2⟩ : ∃ Y2, Y2 = w1.setCell ⟨(w.heap.size + 1 + 1), 40, none⟩ (.slice xa xn xc) := ⟨_, rfl⟩
            have H2 : Hid (KG20 w.heap.size (w.heap.size + 1) (.slice ao l.length cap) l (w.heap.size + 1 + 1) V Y2) := by apply hide; rw [hY2]; exact hk.1
            have HO2 : Hid (BxA Y2 w.heap.size 46 zmsg) := by apply hide; rw [hY2]; exact hk.2.box HO.out (by omega) (by omega)
            have HY2 : Hid (Y2 = _) := hY2
            clear hk hY2 kk ht1 hps HPS pr G HY H HO wn ow ix
            go_upto_region 31 with fail
            clear hu0 hf0
            rw [← HY2.out]
            have HY : Hid (Y2 = Y2) := rfl
            have H := H2
            have HO := HO2
            clear H2 HO2 HY2
            rename World => Y
            obtain ⟨m, C, FN⟩ := kg20_fin H.out
            have kE := end_k Y (w.heap.size + 1) (.slice ao l.length cap) l _ _ FN.ps.ks FN.ps.rd.1
            have hG : gcode l = en l (D20 l (0, 0)).1 (D20 l (0, 0)).2 := by unfold gcode; rw [D_msg]
            rw [← hG] at kE
            have bel : Below w.heap.size w Y := HBW.out.trans (FN.bel _ (by omega) (by omega) (by omega))
            have i1 : (Try.prog.info? 46).map (·.size) = some C.length := by rw [FN.len]; exact Try.msg_info
            have i2 : (Try.prog.info? 46).map (·.size) = some C.toArray.size := by rw [List.size_toArray]; exact i1
            have i3 : zmsg.size = C.toArray.size := by
              have h41 : C.toArray.size = 41 := by rw [List.size_toArray]; exact FN.len
              rw [h41]
              rfl
            have HF : Hid _ := FN
            have HG : Hid _ := hG
            have HBL : Hid (Below w.heap.size w Y) := bel
            have HI : Hid _ := And.intro i1 (And.intro i2 i3)
            obtain ⟨E, hE⟩ : ∃ E, E = gcode l := ⟨_, rfl⟩
            rw [← hE] at kE
            have HE : Hid (E = gcode l) := hE
            clear hG bel hE FN i1 i2 i3 H
            by_cases h0 : E = 0
            · subst h0
              have hl2 : ¬ (1048576 : Int) < (l.length : Int) := by omega
              have hl3 : decide ((1048576 : Int) < (l.length : Int)) = false := decide_eq_false hl2
              go_wp2_with fail
              refine kE.mono ?_
              rintro e w2 ⟨rfl, nq, rfl⟩
              go_wp2_with (first | (refine wpList_load_mid rfl 46 (.tmp 5) rfl (w.heap.size + 1 + 1) 0 rfl C _ (w := Y.drewN nq) HF.out.rg Try.underlying46 rfl HI.out.1 ?_) | (refine wpList_store_row rfl 46 (.tmp 2) (.tmp 131) rfl w.heap.size 46 zmsg C.toArray HO.out rfl rfl HI.out.2.1 HI.out.2.2 HF.out.all ?_))
              refine bodyPost_ret (results_two rfl _ _ w.heap.size 46 C.toArray _ (.int .i64 0) rfl rfl (setRow_heap _ _ _ _ _ _ HO.out) Try.underlying46 rfl HI.out.2.1) rfl ?_
              have gY := setRow_grown (Y.drewN nq) w.heap.size C.toArray
              have e0 : gcode l = 0 := HE.out.symm
              refine ⟨(below_drewN HBL.out nq).trans (grown_above gY (Nat.le_refl _) (BxA.lt HO.out)), m, ?_, ((HF.out.ok.up (w' := Y.drewN nq) (Nat.le_refl _) (fun _ _ _ => rfl)).grow gY (by have := HZV.out; omega)).now, fun _ => ?_, fun h => absurd e0 h⟩
              · rw [e0, HF.out.eq]
                rfl
              · have hg0 : en l (D20 l (0, 0)).1 (D20 l (0, 0)).2 = 0 := by rw [← HG.out]; exact e0
                have hle := HF.out.ps.le
                have hby := HF.out.by'
                obtain ⟨s, hs⟩ : ∃ s, s = D20 l (0, 0) := ⟨_, rfl⟩
                rw [← hs] at hg0 hle hby
                unfold en at hg0
                by_cases he : s.2 = 0
                · rw [if_neg (by rw [he]; decide)] at hg0
                  by_cases hp : s.1 < l.length
                  · rw [if_pos hp] at hg0; cases hg0
                  · rw [hby he, show s.1 = l.length by omega]
                    simp [rd]
                · rw [if_pos he] at hg0
                  exact absurd hg0 he
            · have hE1 : ¬ (E : Int) = 0 := by omega
              have hE2 : ((E : Int) == 0) = false := by simpa using h0
              have hE3 : ((E : Int) != 0) = true := by simp [bne, hE2]
              go_wp2_with fail
              refine kE.mono ?_
              rintro e w2 ⟨rfl, nq, rfl⟩
              go_wp2_with (first | (refine wpList_store_row rfl 46 (.tmp 2) (.tmp 129) rfl w.heap.size 46 zmsg zmsg HO.out rfl rfl Try.msg_info rfl zmsg_all ?_))
              refine bodyPost_ret (results_two rfl _ _ w.heap.size 46 zmsg _ (.int .i64 (E : Int)) rfl rfl (setRow_heap _ _ _ _ _ _ HO.out) Try.underlying46 rfl Try.msg_info) rfl ?_
              have gY := setRow_grown (Y.drewN nq) w.heap.size zmsg
              refine ⟨(below_drewN HBL.out nq).trans (grown_above gY (Nat.le_refl _) (BxA.lt HO.out)), zeroM, ?_, zeroM_ok _, fun h => absurd (HE.out.trans h) h0, fun _ => rfl⟩
              rw [← HE.out]
              rfl
    · have hltz : ¬ (i : Int) < (n : Int) := by omega
      obtain rfl : i = n := by omega
      have es : D12 l (0, 0) = skN (skU l) i s1 := by
        show skL l (skU l) (D11 l (0, 0)) = _
        rw [← HS0.out]
        show skN (skU l) (cS l s0.1 s0.2 1).1 (cS l s0.1 s0.2 1).2 = _
        rw [← HN.out.1, ← HN.out.2]
      have hk := ks12 hR2 hm2 H.out (w1 := wr) HOK.out (by
        have w1 : Win Y.heap.size wr (fun w => Fi.RdsK 1 w (.slice ga gn gc) ms.length (ms.flatMap cl_i64)) := by rw [HXL.out]; exact (own_win HOW.out).imp fun _ r => Fi.RdsK.of_own r
        exact w1) HLL.out (by rw [es]; exact HP.out) (by
        intro h0 h2
        rw [es] at h2 ⊢
        rw [← HS0.out] at h0 ⊢
        have hs0 : s1.2 = 0 := Classical.byContradiction fun hn0 => by
          rw [skN_stay (fwd_u l).stay _ _ hn0] at h2
          exact hn0 h2
        have hc0 : (skC l s0).2 = 0 := by show (cS l s0.1 s0.2 1).2.2 = 0; rw [← HN.out.2]; exact hs0
        have hcb := c_bytes l s0 h0 hc0
        have hle0 := (fwd_c l).le s0 HP0.out.le
        have hle1 := (fwd_n (fwd_u l) i).le s1 HP1.out.le
        have e1 : (skC l s0).1 = s1.1 := by show (cS l s0.1 s0.2 1).2.1 = _; rw [← HN.out.2]
        have e4 : Num.uv i = rd l s0.1 s1.1 := by
          have := hcb.1
          rw [e1] at this
          rw [HN.out.1]
          exact this
        rw [e1] at hle0
        rw [HXL.out, HBB.out hs0 h2, e4]
        exact (rd_app l hle0.1 hle1.1).symm)
      have H2 : Hid (KG12 w.heap.size (w.heap.size + 1) (.slice ao l.length cap) l (w.heap.size + 1 + 1) V wr) := hk
      have HO2 : Hid (BxA wr w.heap.size 46 zmsg) := HLL.out.sk.box HO.out (by omega) (by omega)
      clear hk es HLL HOW HOK HXL HBB HP H HO HS0 HN HP0 HP1 hmY
      go_upto_region 19 with fail
      clear c2 hlt hltz
      rename World => Y
      have H := H2
      have HO := HO2
      clear H2 HO2
      have HY : Hid (Y = Y) := rfl
      have hps := kg12_ps H.out
      have kk := kquery w.heap.size (w.heap.size + 1) (.slice ao l.length cap) l Y _ _ hlb hps.1
      have HPS : Hid _ := hps
      clear hps
      go_wp2_with fail
      refine kk.mono ?_
      rintro er w1 ⟨q, rfl, wn, ⟨⟨qa, qn, qc, e1⟩, ⟨ra, rn, rc, e2⟩, ⟨sa, sn, sc, e3⟩, ⟨va, vn, vc, e4⟩⟩, G⟩
      rw [e1, e2, e3, e4]
      have pr := And.intro e1 (And.intro e2 (And.intro e3 e4))
      have hps := HPS.out
      have ht1 : w1.there (w.heap.size + 1 + 1) 0 41 := there_block (G.g.block (w.heap.size + 1 + 1) (Nat.lt_of_lt_of_le hm2 hps.2.2) (fun e => by simp only [Option.some.injEq] at e; omega)) hps.2.1
      have HT1 : Hid _ := ht1
      have hk := ks13 hR2 hm2 hKm H.out pr wn G
      obtain ⟨Y2, hY2⟩ : ∃ Y2, Y2 = w1.setCells (w.heap.size + 1 + 1) 12 [.int .i64 q.F, .int .i64 q.T, .int .i64 q.t.k, .int .i64 q.t.d, .slice qa qn qc, .int .i64 q.t.lo, .int .i64 q.t.hi, .slice ra rn rc, .int .i64 q.g, .slice sa sn sc, .slice va vn vc, .int .i64 q.G, .int .i64 q.R] := ⟨_, rfl⟩
      have H2 : Hid (KG13 w.heap.size (w.heap.size + 1) (.slice ao l.length cap) l (w.heap.size + 1 + 1) V Y2) := by apply hide; rw [hY2]; exact hk.1
      have HO2 : Hid (BxA Y2 w.heap.size 46 zmsg) := by apply hide; rw [hY2]; exact hk.2.box HO.out (by omega) (by omega)
      have HY2 : Hid (Y2 = _) := hY2
      clear hk hY2 kk ht1 hps HPS pr G HY H HO wn e1 e2 e3 e4
      go_upto_region 20 with (first | (refine wpList_store_mid rfl 36 (.tmp 73) (.tmp 72) rfl (w.heap.size + 1 + 1) 12 #[.int .i64 q.F, .int .i64 q.T, .int .i64 q.t.k, .int .i64 q.t.d, .slice qa qn qc, .int .i64 q.t.lo, .int .i64 q.t.hi, .slice ra rn rc, .int .i64 q.g, .slice sa sn sc, .slice va vn vc, .int .i64 q.G, .int .i64 q.R] rfl rfl (there_sub HT1.out 12 13 (by decide)) (by kernel_rfl) (by first | rfl | simp [Value.oneCell']) ?_))
      clear HT1
      rw [← HY2.out]
      have HY : Hid (Y2 = Y2) := rfl
      have H := H2
      have HO := HO2
      clear H2 HO2 HY2
      rename World => Y
      have hps := kg13_ps H.out
      have kk := kseg w.heap.size (w.heap.size + 1) (.slice ao l.length cap) l Y _ _ hlb hps.1
      have HPS : Hid _ := hps
      clear hps
      go_wp2_with fail
      refine kk.mono ?_
      rintro er w1 ⟨y, rfl, pr, G⟩
      have hps := HPS.out
      have ht1 : w1.there (w.heap.size + 1 + 1) 0 41 := there_block (G.g.block (w.heap.size + 1 + 1) (Nat.lt_of_lt_of_le hm2 hps.2.2) (fun e => by simp only [Option.some.injEq] at e; omega)) hps.2.1
      have HT1 : Hid _ := ht1
      have hk := ks14 hR2 hm2 hKm H.out pr G
      obtain ⟨Y2, hY2⟩ : ∃ Y2, Y2 = w1.setCells (w.heap.size + 1 + 1) 25 [.int .i64 y.F, .int .i64 y.T, .int .i64 y.V, .int .i64 y.P, .int .i64 y.C] := ⟨_, rfl⟩
      have H2 : Hid (KG14 w.heap.size (w.heap.size + 1) (.slice ao l.length cap) l (w.heap.size + 1 + 1) V Y2) := by apply hide; rw [hY2]; exact hk.1
      have HO2 : Hid (BxA Y2 w.heap.size 46 zmsg) := by apply hide; rw [hY2]; exact hk.2.box HO.out (by omega) (by omega)
      have HY2 : Hid (Y2 = _) := hY2
      clear hk hY2 kk ht1 hps HPS pr G HY H HO
      go_upto_region 21 with (first | (refine wpList_store_mid rfl 38 (.tmp 77) (.tmp 75) rfl (w.heap.size + 1 + 1) 25 #[.int .i64 y.F, .int .i64 y.T, .int .i64 y.V, .int .i64 y.P, .int .i64 y.C] rfl rfl (there_sub HT1.out 25 5 (by decide)) (by kernel_rfl) (by first | rfl | simp [Value.oneCell']) ?_))
      clear HT1
      rw [← HY2.out]
      have HY : Hid (Y2 = Y2) := rfl
      have H := H2
      have HO := HO2
      clear H2 HO2 HY2
      rename World => Y
      have hps := kg14_ps H.out
      have kk := kspan w.heap.size (w.heap.size + 1) (.slice ao l.length cap) l Y _ _ hlb hps.1
      have HPS : Hid _ := hps
      clear hps
      go_wp2_with fail
      refine kk.mono ?_
      rintro er w1 ⟨F, T, rfl, iF, iT, G⟩
      have pr := And.intro iF iT
      have hps := HPS.out
      have ht1 : w1.there (w.heap.size + 1 + 1) 0 41 := there_block (G.g.block (w.heap.size + 1 + 1) (Nat.lt_of_lt_of_le hm2 hps.2.2) (fun e => by simp only [Option.some.injEq] at e; omega)) hps.2.1
      have HT1 : Hid _ := ht1
      have hk := ks15 hR2 hm2 hKm H.out pr G
      obtain ⟨Y2, hY2⟩ : ∃ Y2, Y2 = w1.setCells (w.heap.size + 1 + 1) 30 [.int .i64 F, .int .i64 T] := ⟨_, rfl⟩
      have H2 : Hid (KG15 w.heap.size (w.heap.size + 1) (.slice ao l.length cap) l (w.heap.size + 1 + 1) V Y2) := by apply hide; rw [hY2]; exact hk.1
      have HO2 : Hid (BxA Y2 w.heap.size 46 zmsg) := by apply hide; rw [hY2]; exact hk.2.box HO.out (by omega) (by omega)
      have HY2 : Hid (Y2 = _) := hY2
      clear hk hY2 kk ht1 hps HPS pr G HY H HO iF iT
      go_upto_region 22 with (first | (refine wpList_store_mid rfl 29 (.tmp 81) (.tmp 79) rfl (w.heap.size + 1 + 1) 30 #[.int .i64 F, .int .i64 T] rfl rfl (there_sub HT1.out 30 2 (by decide)) (by kernel_rfl) (by first | rfl | simp [Value.oneCell']) ?_))
      clear HT1
      rw [← HY2.out]
      have HY : Hid (Y2 = Y2) := rfl
      have H := H2
      have HO := HO2
      clear H2 HO2 HY2
      rename World => Y
      have hps := kg15_ps H.out
      have kk := kbool' w.heap.size (w.heap.size + 1) (.slice ao l.length cap) l Y _ _ hps.1
      have HPS : Hid _ := hps
      clear hps
      go_wp2_with fail
      refine kk.mono ?_
      rintro er w1 ⟨od, rfl, G⟩
      have pr := True.intro
      have hps := HPS.out
      have ht1 : w1.there (w.heap.size + 1 + 1) 0 41 := there_block (G.g.block (w.heap.size + 1 + 1) (Nat.lt_of_lt_of_le hm2 hps.2.2) (fun e => by simp only [Option.some.injEq] at e; omega)) hps.2.1
      obtain ⟨u0, hu0⟩ := there_cell ht1 32 (by decide)
      have hf0 := there_free ht1 32 (by decide)
      have hk := ks16 hR2 hm2 hKm H.out pr G
      obtain ⟨Y2, hY2⟩ : ∃ Y2, Y2 = w1.setCell ⟨(w.heap.size + 1 + 1), 32, none⟩ (.bool od) := ⟨_, rfl⟩
      have H2 : Hid (KG16 w.heap.size (w.heap.size + 1) (.slice ao l.length cap) l (w.heap.size + 1 + 1) V Y2) := by apply hide; rw [hY2]; exact hk.1
      have HO2 : Hid (BxA Y2 w.heap.size 46 zmsg) := by apply hide; rw [hY2]; exact hk.2.box HO.out (by omega) (by omega)
      have HY2 : Hid (Y2 = _) := hY2
      clear hk hY2 kk ht1 hps HPS pr G HY H HO
      go_upto_region 23 with fail
      clear hu0 hf0
      rw [← HY2.out]
      have HY : Hid (Y2 = Y2) := rfl
      have H := H2
      have HO := HO2
      clear H2 HO2 HY2
      rename World => Y
      have hps := kg16_ps H.out
      have kk := kseg w.heap.size (w.heap.size + 1) (.slice ao l.length cap) l Y _ _ hlb hps.1
      have HPS : Hid _ := hps
      clear hps
      go_wp2_with fail
      refine kk.mono ?_
      rintro er w1 ⟨z, rfl, pr, G⟩
      have hps := HPS.out
      have ht1 : w1.there (w.heap.size + 1 + 1) 0 41 := there_block (G.g.block (w.heap.size + 1 + 1) (Nat.lt_of_lt_of_le hm2 hps.2.2) (fun e => by simp only [Option.some.injEq] at e; omega)) hps.2.1
      have HT1 : Hid _ := ht1
      have hk := ks17 hR2 hm2 hKm H.out pr G
      obtain ⟨Y2, hY2⟩ : ∃ Y2, Y2 = w1.setCells (w.heap.size + 1 + 1) 33 [.int .i64 z.F, .int .i64 z.T, .int .i64 z.V, .int .i64 z.P, .int .i64 z.C] := ⟨_, rfl⟩
      have H2 : Hid (KG17 w.heap.size (w.heap.size + 1) (.slice ao l.length cap) l (w.heap.size + 1 + 1) V Y2) := by apply hide; rw [hY2]; exact hk.1
      have HO2 : Hid (BxA Y2 w.heap.size 46 zmsg) := by apply hide; rw [hY2]; exact hk.2.box HO.out (by omega) (by omega)
      have HY2 : Hid (Y2 = _) := hY2
      clear hk hY2 kk ht1 hps HPS pr G HY H HO
      go_upto_region 24 with (first | (refine wpList_store_mid rfl 38 (.tmp 89) (.tmp 87) rfl (w.heap.size + 1 + 1) 33 #[.int .i64 z.F, .int .i64 z.T, .int .i64 z.V, .int .i64 z.P, .int .i64 z.C] rfl rfl (there_sub HT1.out 33 5 (by decide)) (by kernel_rfl) (by first | rfl | simp [Value.oneCell']) ?_))
      clear HT1
      rw [← HY2.out]
      have HY : Hid (Y2 = Y2) := rfl
      have H := H2
      have HO := HO2
      clear H2 HO2 HY2
      rename World => Y
      have hps := kg17_ps H.out
      have kk := kwhole w.heap.size (w.heap.size + 1) (.slice ao l.length cap) l Y _ _ hps.1
      have HPS : Hid _ := hps
      clear hps
      go_wp2_with fail
      refine kk.mono ?_
      rintro er w1 ⟨nd, rfl, pr, G⟩
      have hps := HPS.out
      have ht1 : w1.there (w.heap.size + 1 + 1) 0 41 := there_block (G.g.block (w.heap.size + 1 + 1) (Nat.lt_of_lt_of_le hm2 hps.2.2) (fun e => by simp only [Option.some.injEq] at e; omega)) hps.2.1
      obtain ⟨u0, hu0⟩ := there_cell ht1 38 (by decide)
      have hf0 := there_free ht1 38 (by decide)
      have hk := ks18 hR2 hm2 hKm H.out pr G
      obtain ⟨Y2, hY2⟩ : ∃ Y2, Y2 = w1.setCell ⟨(w.heap.size + 1 + 1), 38, none⟩ (.int .i64 nd) := ⟨_, rfl⟩
      have H2 : Hid (KG18 w.heap.size (w.heap.size + 1) (.slice ao l.length cap) l (w.heap.size + 1 + 1) V Y2) := by apply hide; rw [hY2]; exact hk.1
      have HO2 : Hid (BxA Y2 w.heap.size 46 zmsg) := by apply hide; rw [hY2]; exact hk.2.box HO.out (by omega) (by omega)
      have HY2 : Hid (Y2 = _) := hY2
      clear hk hY2 kk ht1 hps HPS pr G HY H HO
      go_upto_region 25 with fail
      clear hu0 hf0
      rw [← HY2.out]
      have HY : Hid (Y2 = Y2) := rfl
      have H := H2
      have HO := HO2
      clear H2 HO2 HY2
      rename World => Y
      have hps := kg18_ps H.out
      have hnil := kg18_nil H.out
      obtain ⟨s0, hs0⟩ : ∃ s : Sg2, s = D18 l (0, 0) := ⟨_, rfl⟩
      have ps0 : RP w.heap.size (w.heap.size + 1) (.slice ao l.length cap) l Y s0.1 s0.2 := by rw [hs0]; exact hps.1
      have kc := kcount w.heap.size (w.heap.size + 1) (.slice ao l.length cap) l Y s0.1 s0.2 hlb ps0
      obtain ⟨n, hn⟩ : ∃ n, n = (cS l s0.1 s0.2 1).1 := ⟨_, rfl⟩
      obtain ⟨s1, hs1⟩ : ∃ s : Sg2, s = (cS l s0.1 s0.2 1).2 := ⟨_, rfl⟩
      have hnl : n ≤ 1048576 := by rw [hn]; exact Nat.le_trans (c_le l s0.1 s0.2 ps0.le) hlb
      have e1' : (cS l s0.1 s0.2 1).2.1 = s1.1 := by rw [hs1]
      have e2' : (cS l s0.1 s0.2 1).2.2 = s1.2 := by rw [hs1]
      rw [← hn, e1', e2'] at kc
      have HN : Hid (n = (cS l s0.1 s0.2 1).1 ∧ s1 = (cS l s0.1 s0.2 1).2) := ⟨hn, hs1⟩
      have HS0 : Hid (s0 = D18 l (0, 0)) := hs0
      have HP0 : Hid (RP w.heap.size (w.heap.size + 1) (.slice ao l.length cap) l Y s0.1 s0.2) := ps0
      have hmY : (w.heap.size + 1 + 1) < Y.heap.size := Nat.lt_of_lt_of_le hm2 hps.2.2
      have HPN : Hid _ := And.intro hps hnil
      clear hn hs1 e1' e2' ps0 hs0 hps hnil
      go_wp2_with fail
      refine kc.mono ?_
      rintro er w4 ⟨rfl, hP4, g4⟩
      have HP1 : Hid (RP w.heap.size (w.heap.size + 1) (.slice ao l.length cap) l w4 s1.1 s1.2) := hP4
      have HL4 : Hid (LL (w.heap.size + 1) (w.heap.size + 1 + 1) Y w4 39 (.slice none 0 0)) := LL.start g4 hmY hKm HPN.out.1.2.1 HPN.out.2
      clear hP4 g4 kc HPN
      go_wp2_with fail
      go_loopg [8] n (fun kx vi wr => ∃ (i : Nat) (xs : List Sg) (ya : Option Addr) (yn yc : Nat), vi = .int .i64 (i : Int) ∧ i ≤ n ∧ n - i ≤ kx ∧ Hid (xs.length = i) ∧ Hid (LL (w.heap.size + 1) (w.heap.size + 1 + 1) Y wr 39 (.slice ya yn yc)) ∧ Hid (wr.ownsRow Y.heap.size 38 5 (.slice ya yn yc) i (xs.flatMap cl_seg)) ∧ Hid (∀ x ∈ xs, x.In) ∧ Hid (RP w.heap.size (w.heap.size + 1) (.slice ao l.length cap) l wr (skN (skSeg l) i s1).1 (skN (skSeg l) i s1).2) ∧ Hid (s1.2 = 0 → (skN (skSeg l) i s1).2 = 0 → xs.flatMap r_seg = rd l s1.1 (skN (skSeg l) i s1).1))
      case atStart => exact ⟨0, [], none, 0, 0, rfl, by omega, Nat.le_refl _, rfl, HL4, ⟨rfl, .inl ⟨rfl, rfl⟩⟩, (fun _ h => by cases h), HP1, fun _ _ => by show _ = rd l s1.1 s1.1; simp [rd]⟩
      case round =>
        obtain ⟨i, xs, ya, yn, yc, rfl, hi, hkx, HXL, HLL, HOW, HOK, HP, HBB⟩ := hrel
        clear HL4
        obtain ⟨E, hE⟩ : ∃ E, E = (skN (skSeg l) i s1).2 := ⟨_, rfl⟩
        have HEE : Hid (E = (skN (skSeg l) i s1).2) := hE
        have hks := HP.out.ks
        rw [← hE] at hks
        obtain ⟨c0, c1, c2, cf⟩ := hks.cells
        clear hks hE cf c0 c1
        by_cases hlt : i < n
        · have hltz : (i : Int) < (n : Int) := by omega
          by_cases he : E = 0
          · subst he
            obtain ⟨q, hq⟩ : ∃ q, q = (skN (skSeg l) i s1).1 := ⟨_, rfl⟩
            have HQ : Hid ((q, 0) = skN (skSeg l) i s1) := Prod.ext hq HEE.out
            have hql : ((q, 0) : Sg2).1 ≤ l.length := by rw [hq]; exact HP.out.le
            have rq : RP w.heap.size (w.heap.size + 1) (.slice ao l.length cap) l wr q 0 := by have := HP.out; rw [← hq, ← HEE.out] at this; exact this
            have hSig0 : (false = true → false = true) ∧ (false = false → wr.drew.heap[(w.heap.size + 1 + 1)]? = wr.heap[(w.heap.size + 1 + 1)]?) := ⟨fun h => h, fun _ => rfl⟩
            have hS00 : GK w.heap.size (w.heap.size + 1) (.slice ao l.length cap) l wr wr.drew (q, 0) (fun s => s) [] := GK.id ⟨rq.b, rq.ks, rq.rd, rq.le⟩ ⟨rfl, rfl, rfl, Nat.le_refl _, fun _ _ _ => rfl⟩
            clear hq rq
            go_upto_region 29 with fail
            refine wp_region_invF (β := Value × Value × Value × Value × Value × Value × Value) (fun a0 xq => (((((((a0.put (some 108) (xq.1)).put (some 109) (xq.2.1)).put (some 110) (xq.2.2.1)).put (some 111) (xq.2.2.2.1)).put (some 112) (xq.2.2.2.2.1)).put (some 113) (xq.2.2.2.2.2.1)).put (some 114) (xq.2.2.2.2.2.2))) ?fr108q3 (fun xq d w' => ((d 7 = true → d 1 = true) ∧ (d 7 = false → w'.heap[(w.heap.size + 1 + 1)]? = wr.heap[(w.heap.size + 1 + 1)]?)) ∧ ((d 0 = true → (xq.1) = .pointer (some ⟨w.heap.size + 1 + 1, 39, none⟩)) ∧ (d 1 = true → (xq.2.1) = .slice ya yn yc) ∧ (d 2 = true → (xq.2.2.1) = .pointer (some ⟨w.heap.size + 1, 0, none⟩)) ∧ (d 6 = true → (xq.2.2.2.2.2.2) = .pointer (some ⟨w.heap.size + 1 + 1, 39, none⟩))) ∧ ∃ j : Nat, j ≤ 4 ∧ (d 3 = decide (0 < j) ∧ d 4 = decide (1 < j) ∧ d 5 = decide (2 < j) ∧ d 7 = decide (3 < j)) ∧ ((j = 0 → GK w.heap.size (w.heap.size + 1) (.slice ao l.length cap) l wr w' (q, 0) (fun s => s) []) ∧ (j = 1 → ∃ (x : Sg), (xq.2.2.2.1) = .agg #[.int .i64 x.F, .int .i64 x.T, .int .i64 x.V, .int .i64 x.P, .int .i64 x.C] ∧ (x.In) ∧ GK w.heap.size (w.heap.size + 1) (.slice ao l.length cap) l wr w' (q, 0) (skSeg l) (r_seg x)) ∧ (j = 2 → ∃ (x : Sg) (w2 : World), (xq.2.2.2.1) = .agg #[.int .i64 x.F, .int .i64 x.T, .int .i64 x.V, .int .i64 x.P, .int .i64 x.C] ∧ (xq.2.2.2.2.1) = .slice (some ⟨w2.heap.size, 0, none⟩) 1 1 ∧ ((x.In) ∧ GK w.heap.size (w.heap.size + 1) (.slice ao l.length cap) l wr w2 (q, 0) (skSeg l) (r_seg x)) ∧ w' = w2.alloc (.cells #[.int .i64 x.F, .int .i64 x.T, .int .i64 x.V, .int .i64 x.P, .int .i64 x.C] 38)) ∧ (j = 3 → ∃ (x : Sg) (w2 : World) (a5 : Option Addr) (n5 m5 : Nat), (xq.2.2.2.2.2.1) = .slice a5 n5 m5 ∧ ((x.In) ∧ GK w.heap.size (w.heap.size + 1) (.slice ao l.length cap) l wr w2 (q, 0) (skSeg l) (r_seg x)) ∧ (w'.ownsRow Y.heap.size 38 5 (.slice a5 n5 m5) (i + 1) (xs.flatMap cl_seg ++ cl_seg x) ∧ (w2.alloc (.cells #[.int .i64 x.F, .int .i64 x.T, .int .i64 x.V, .int .i64 x.P, .int .i64 x.C] 38)).grownBy w' (Value.ownBlock (.slice ya yn yc)))) ∧ (j = 4 → ∃ (x : Sg) (w2 w3 : World) (a5 : Option Addr) (n5 m5 : Nat), ((x.In) ∧ GK w.heap.size (w.heap.size + 1) (.slice ao l.length cap) l wr w2 (q, 0) (skSeg l) (r_seg x)) ∧ (w3.ownsRow Y.heap.size 38 5 (.slice a5 n5 m5) (i + 1) (xs.flatMap cl_seg ++ cl_seg x) ∧ (w2.alloc (.cells #[.int .i64 x.F, .int .i64 x.T, .int .i64 x.V, .int .i64 x.P, .int .i64 x.C] 38)).grownBy w3 (Value.ownBlock (.slice ya yn yc))) ∧ w3.heap[(w.heap.size + 1 + 1)]? = wr.heap[(w.heap.size + 1 + 1)]? ∧ w' = w3.setCell ⟨(w.heap.size + 1 + 1), 39, none⟩ (.slice a5 n5 m5)))) ?lay108q3 mixed (by kernel_rfl) ?h0108q3 ?hs108q3 ?he108q3
            case lay108q3 =>
              intro xq
              simp only [Act.put, List.setIfInBounds_toArray, List.set_cons_zero, List.set_cons_succ]
              rfl
            case h0108q3 =>
              refine ⟨(u108, u109, u110, u111, u112, u113, u114), rfl, ?sig108q3, ⟨(fun h => by cases h), (fun h => by cases h), (fun h => by cases h), (fun h => by cases h)⟩, 0, Nat.zero_le _, ⟨rfl, rfl, rfl, rfl⟩, ?S0108q3, (fun h => by cases h), (fun h => by cases h), (fun h => by cases h), (fun h => by cases h)⟩
              case sig108q3 => exact hSig0
              case S0108q3 => exact fun _ => hS00
            case hs108q3 =>
              refine ⟨?_, ?_, ?_, ?_, ?_, ?_, ?_, ?_, trivial⟩
              · rintro d ⟨x108, x109, x110, x111, x112, x113, x114⟩ w' hI hd hdp KQ hK
                dsimp only at hI
                obtain ⟨hS, ⟨f0, f1, f2, f6⟩, j, hj, ⟨dd3, dd4, dd5, dd7⟩, ⟨p0, p1, p2, p3, p4⟩⟩ := hI
                have hd0 := hd
                have HF : Hid _ := And.intro hS (And.intro (And.intro f0 (And.intro f1 (And.intro f2 f6))) (And.intro hj (And.intro (And.intro dd3 (And.intro dd4 (And.intro dd5 dd7))) (And.intro p0 (And.intro p1 (And.intro p2 (And.intro p3 p4)))))))
                clear hS f0 f1 f2 f6 hj dd3 dd4 dd5 dd7 p0 p1 p2 p3 p4 hdp hd
                refine Opn.mk ?_
                dsimp only
                go_simp
                obtain ⟨hS, ⟨f0, f1, f2, f6⟩, hj, ⟨dd3, dd4, dd5, dd7⟩, ⟨p0, p1, p2, p3, p4⟩⟩ := HF.out
                exact hK.out (.pointer (some ⟨w.heap.size + 1 + 1, 39, none⟩), x109, x110, x111, x112, x113, x114) _ ⟨⟨fun h => (upd_no (by decide)).trans (hS.1 (upd_ne h (by decide))), fun h => hS.2 (by rw [upd_no (by decide)] at h; exact h)⟩, ⟨(fun _ => rfl), (fun h => f1 (upd_ne h (by decide))), (fun h => f2 (upd_ne h (by decide))), (fun h => f6 (upd_ne h (by decide)))⟩, j, hj, ⟨((upd_no (by decide)).trans dd3), ((upd_no (by decide)).trans dd4), ((upd_no (by decide)).trans dd5), ((upd_no (by decide)).trans dd7)⟩, ⟨p0, p1, p2, p3, p4⟩⟩
              · rintro d ⟨x108, x109, x110, x111, x112, x113, x114⟩ w' hI hd hdp KQ hK
                dsimp only at hI
                obtain ⟨hS, ⟨f0, f1, f2, f6⟩, j, hj, ⟨dd3, dd4, dd5, dd7⟩, ⟨p0, p1, p2, p3, p4⟩⟩ := hI
                obtain rfl := f0 (hdp 0 (by decide +kernel))
                have h9 : d 7 = false := by
                  cases h : d 7 with
                  | false => rfl
                  | true => exact absurd (hS.1 h) (by rw [hd]; decide)
                have c5 : w'.cell? ⟨(w.heap.size + 1 + 1), 39, none⟩ = some (.slice ya yn yc) := by
                  rw [cell_block (hS.2 h9)]
                  have := HLL.out.rg 0 _ rfl
                  rwa [Nat.add_zero] at this
                have hd0 := hd
                have HF : Hid _ := And.intro hS (And.intro (And.intro f0 (And.intro f1 (And.intro f2 f6))) (And.intro hj (And.intro (And.intro dd3 (And.intro dd4 (And.intro dd5 dd7))) (And.intro p0 (And.intro p1 (And.intro p2 (And.intro p3 p4)))))))
                clear hS f0 f1 f2 f6 hj dd3 dd4 dd5 dd7 p0 p1 p2 p3 p4 hdp hd
                refine Opn.mk ?_
                dsimp only
                go_simp
                obtain ⟨hS, ⟨f0, f1, f2, f6⟩, hj, ⟨dd3, dd4, dd5, dd7⟩, ⟨p0, p1, p2, p3, p4⟩⟩ := HF.out
                exact hK.out (.pointer (some ⟨w.heap.size + 1 + 1, 39, none⟩), .slice ya yn yc, x110, x111, x112, x113, x114) _ ⟨⟨fun h => by simp [upd], fun h => hS.2 (by rw [upd_no (by decide)] at h; exact h)⟩, ⟨(fun _ => rfl), (fun _ => rfl), (fun h => f2 (upd_ne h (by decide))), (fun h => f6 (upd_ne h (by decide)))⟩, j, hj, ⟨((upd_no (by decide)).trans dd3), ((upd_no (by decide)).trans dd4), ((upd_no (by decide)).trans dd5), ((upd_no (by decide)).trans dd7)⟩, ⟨p0, p1, p2, p3, p4⟩⟩
              · rintro d ⟨x108, x109, x110, x111, x112, x113, x114⟩ w' hI hd hdp KQ hK
                dsimp only at hI
                obtain ⟨hS, ⟨f0, f1, f2, f6⟩, j, hj, ⟨dd3, dd4, dd5, dd7⟩, ⟨p0, p1, p2, p3, p4⟩⟩ := hI
                have hd0 := hd
                have HF : Hid _ := And.intro hS (And.intro (And.intro f0 (And.intro f1 (And.intro f2 f6))) (And.intro hj (And.intro (And.intro dd3 (And.intro dd4 (And.intro dd5 dd7))) (And.intro p0 (And.intro p1 (And.intro p2 (And.intro p3 p4)))))))
                clear hS f0 f1 f2 f6 hj dd3 dd4 dd5 dd7 p0 p1 p2 p3 p4 hdp hd
                refine Opn.mk ?_
                dsimp only
                go_simp
                obtain ⟨hS, ⟨f0, f1, f2, f6⟩, hj, ⟨dd3, dd4, dd5, dd7⟩, ⟨p0, p1, p2, p3, p4⟩⟩ := HF.out
                exact hK.out (x108, x109, .pointer (some ⟨w.heap.size + 1, 0, none⟩), x111, x112, x113, x114) _ ⟨⟨fun h => (upd_no (by decide)).trans (hS.1 (upd_ne h (by decide))), fun h => hS.2 (by rw [upd_no (by decide)] at h; exact h)⟩, ⟨(fun h => f0 (upd_ne h (by decide))), (fun h => f1 (upd_ne h (by decide))), (fun _ => rfl), (fun h => f6 (upd_ne h (by decide)))⟩, j, hj, ⟨((upd_no (by decide)).trans dd3), ((upd_no (by decide)).trans dd4), ((upd_no (by decide)).trans dd5), ((upd_no (by decide)).trans dd7)⟩, ⟨p0, p1, p2, p3, p4⟩⟩
              · rintro d ⟨x108, x109, x110, x111, x112, x113, x114⟩ w' hI hd hdp KQ hK
                dsimp only at hI
                obtain ⟨hS, ⟨f0, f1, f2, f6⟩, j, hj, ⟨dd3, dd4, dd5, dd7⟩, ⟨p0, p1, p2, p3, p4⟩⟩ := hI
                obtain rfl := f2 (hdp 2 (by decide +kernel))
                obtain rfl := ph_zero dd3 hd
                have s := p0 rfl
                clear p0 p1 p2 p3 p4 hj
                have G := s
                clear s
                have kk := kseg w.heap.size (w.heap.size + 1) (.slice ao l.length cap) l w' _ _ hlb G.ps
                have HG : Hid _ := And.intro hS G
                clear hS G
                have HF : Hid _ := And.intro (And.intro f0 (And.intro f1 (And.intro f2 f6))) (And.intro dd3 (And.intro dd4 (And.intro dd5 dd7)))
                clear f0 f1 f2 f6 dd3 dd4 dd5 dd7 hdp hd
                refine Opn.mk ?_
                dsimp only
                go_simp
                go_wp2_with (first | (go_at_call 64; with_reducible refine kk.mono ?_; rintro e5 w5 ⟨x, rfl, ix, G5⟩))
                obtain ⟨hS, G⟩ := HG.out
                obtain ⟨⟨f0, f1, f2, f6⟩, ⟨dd3, dd4, dd5, dd7⟩⟩ := HF.out
                refine hK.out (x108, x109, .pointer (some ⟨w.heap.size + 1, 0, none⟩), .agg #[.int .i64 x.F, .int .i64 x.T, .int .i64 x.V, .int .i64 x.P, .int .i64 x.C], x112, x113, x114) _ ⟨?sg, ⟨(fun h => f0 (upd_ne h (by decide))), (fun h => f1 (upd_ne h (by decide))), (fun _ => rfl), (fun h => f6 (upd_ne h (by decide)))⟩, 1, by decide, ⟨(by simp [upd]), ((upd_no (by decide)).trans (dd4.trans (by decide))), ((upd_no (by decide)).trans (dd5.trans (by decide))), ((upd_no (by decide)).trans (dd7.trans (by decide)))⟩, ⟨(fun h => absurd h (by decide)), (fun _ => ?new), (fun h => absurd h (by decide)), (fun h => absurd h (by decide)), (fun h => absurd h (by decide))⟩⟩
                case sg => exact ⟨fun h => (upd_no (by decide)).trans (hS.1 (upd_ne h (by decide))), fun h => by rw [G5.g.block (w.heap.size + 1 + 1) (Nat.lt_of_lt_of_le (Nat.lt_of_lt_of_le hmY HLL.out.size) G.g.size) (fun e => by simp only [Option.some.injEq] at e; omega)]; exact (hS.2 (by rw [upd_no (by decide)] at h; exact h))⟩
                case new =>
                  have GC := GK.comp hql (fwd_id l) (fwd_seg l) G G5
                  exact ⟨x, rfl, ix, ⟨GC.ps, GC.g, GC.b⟩⟩
              · rintro d ⟨x108, x109, x110, x111, x112, x113, x114⟩ w' hI hd hdp KQ hK
                dsimp only at hI
                obtain ⟨hS, ⟨f0, f1, f2, f6⟩, j, hj, ⟨dd3, dd4, dd5, dd7⟩, ⟨p0, p1, p2, p3, p4⟩⟩ := hI
                obtain rfl := ph_eq (k := 0) dd4 hd dd3 (hdp 3 (by decide +kernel))
                have s := p1 rfl
                clear p0 p1 p2 p3 p4 hj
                obtain ⟨x, rfl, F1⟩ := s
                have HG : Hid _ := And.intro hS F1
                clear hS F1
                have HF : Hid _ := And.intro (And.intro f0 (And.intro f1 (And.intro f2 f6))) (And.intro dd3 (And.intro dd4 (And.intro dd5 dd7)))
                clear f0 f1 f2 f6 dd3 dd4 dd5 dd7 hdp hd
                refine Opn.mk ?_
                dsimp only
                go_simp
                obtain ⟨hS, F1⟩ := HG.out
                obtain ⟨⟨f0, f1, f2, f6⟩, ⟨dd3, dd4, dd5, dd7⟩⟩ := HF.out
                refine hK.out (x108, x109, x110, .agg #[.int .i64 x.F, .int .i64 x.T, .int .i64 x.V, .int .i64 x.P, .int .i64 x.C], (.slice (some ⟨w'.heap.size, 0, none⟩) 1 1), x113, x114) _ ⟨?sg, ⟨(fun h => f0 (upd_ne h (by decide))), (fun h => f1 (upd_ne h (by decide))), (fun h => f2 (upd_ne h (by decide))), (fun h => f6 (upd_ne h (by decide)))⟩, 2, by decide, ⟨((upd_no (by decide)).trans (dd3.trans (by decide))), (by simp [upd]), ((upd_no (by decide)).trans (dd5.trans (by decide))), ((upd_no (by decide)).trans (dd7.trans (by decide)))⟩, ⟨(fun h => absurd h (by decide)), (fun h => absurd h (by decide)), (fun _ => ?new), (fun h => absurd h (by decide)), (fun h => absurd h (by decide))⟩⟩
                case sg => exact ⟨fun h => (upd_no (by decide)).trans (hS.1 (upd_ne h (by decide))), fun h => by rw [Below.heap_alloc _ _ _ (Nat.lt_of_lt_of_le (Nat.lt_of_lt_of_le hmY HLL.out.size) F1.2.g.size)]; exact (hS.2 (by rw [upd_no (by decide)] at h; exact h))⟩
                case new =>
                  exact ⟨x, w', rfl, rfl, F1, rfl⟩
              · rintro d ⟨x108, x109, x110, x111, x112, x113, x114⟩ w' hI hd hdp KQ hK
                dsimp only at hI
                obtain ⟨hS, ⟨f0, f1, f2, f6⟩, j, hj, ⟨dd3, dd4, dd5, dd7⟩, ⟨p0, p1, p2, p3, p4⟩⟩ := hI
                obtain rfl := f1 (hdp 1 (by decide +kernel))
                obtain rfl := ph_eq (k := 1) dd5 hd dd4 (hdp 4 (by decide +kernel))
                have s := p2 rfl
                clear p0 p1 p2 p3 p4 hj
                obtain ⟨x, w2, rfl, rfl, F1, rfl⟩ := s
                have HG : Hid _ := And.intro hS F1
                have HOW2 : Hid (w2.ownsRow Y.heap.size 38 5 (.slice ya yn yc) i (xs.flatMap cl_seg)) := (HP.out.ktt F1.2.g).own HOW.out (by decide)
                have hsz2 : Y.heap.size ≤ w2.heap.size := Nat.le_trans HLL.out.size F1.2.g.size
                clear hS F1
                have HF : Hid _ := And.intro (And.intro f0 (And.intro f1 (And.intro f2 f6))) (And.intro dd3 (And.intro dd4 (And.intro dd5 dd7)))
                clear f0 f1 f2 f6 dd3 dd4 dd5 dd7 hdp hd
                refine Opn.mk ?_
                dsimp only
                rw [if_pos (show Region.wanted _ _ = true from rfl)]
                refine wp_appF (.tmp 109) (.tmp 112) 43 rfl Y.heap.size 38 j0 (.agg #[.int .i64 0, .int .i64 0, .int .i64 0, .int .i64 0, .int .i64 0]) 5 40 Try.underlying43 hj0 jz0 jz1 jz2 rfl (by decide) (.slice ya yn yc) i (xs.flatMap cl_seg) rfl (World.ownsRow.alloc HOW2.out (.cells #[.int .i64 x.F, .int .i64 x.T, .int .i64 x.V, .int .i64 x.P, .int .i64 x.C] 38)) ⟨w2.heap.size, 0, none⟩ 1 1 (cl_seg x) rfl (lit_rds' w2 _ 38 _ rfl) (fun u hu => by simp [cl_seg] at hu; rcases hu with rfl | rfl | rfl | rfl | rfl <;> rfl) (by unfold maxLen; omega) (by omega) (Nat.le_trans hsz2 (by simp)) ?_
                intro v3 w3 o3 g3 _
                obtain ⟨a5, n5, m5, rfl⟩ := own_sl o3
                obtain ⟨hS, F1⟩ := HG.out
                obtain ⟨⟨f0, f1, f2, f6⟩, ⟨dd3, dd4, dd5, dd7⟩⟩ := HF.out
                refine hK.out (x108, .slice ya yn yc, x110, .agg #[.int .i64 x.F, .int .i64 x.T, .int .i64 x.V, .int .i64 x.P, .int .i64 x.C], (.slice (some ⟨w2.heap.size, 0, none⟩) 1 1), .slice a5 n5 m5, x114) _ ⟨?sg, ⟨(fun h => f0 (upd_ne h (by decide))), (fun _ => rfl), (fun h => f2 (upd_ne h (by decide))), (fun h => f6 (upd_ne h (by decide)))⟩, 3, by decide, ⟨((upd_no (by decide)).trans (dd3.trans (by decide))), ((upd_no (by decide)).trans (dd4.trans (by decide))), (by simp [upd]), ((upd_no (by decide)).trans (dd7.trans (by decide)))⟩, ⟨(fun h => absurd h (by decide)), (fun h => absurd h (by decide)), (fun h => absurd h (by decide)), (fun _ => ?new), (fun h => absurd h (by decide))⟩⟩
                case sg => exact ⟨fun h => (upd_no (by decide)).trans (hS.1 (upd_ne h (by decide))), fun h => by rw [g3.block (w.heap.size + 1 + 1) (by have := Nat.lt_of_lt_of_le (Nat.lt_of_lt_of_le hmY HLL.out.size) F1.2.g.size; simp; omega) (fun e => by have := (World.ownsRow.lt HOW2.out _ e.symm).1; omega)]; exact (hS.2 (by rw [upd_no (by decide)] at h; exact h))⟩
                case new =>
                  exact ⟨x, w2, a5, n5, m5, rfl, F1, o3, g3⟩
              · rintro d ⟨x108, x109, x110, x111, x112, x113, x114⟩ w' hI hd hdp KQ hK
                dsimp only at hI
                obtain ⟨hS, ⟨f0, f1, f2, f6⟩, j, hj, ⟨dd3, dd4, dd5, dd7⟩, ⟨p0, p1, p2, p3, p4⟩⟩ := hI
                have hd0 := hd
                have HF : Hid _ := And.intro hS (And.intro (And.intro f0 (And.intro f1 (And.intro f2 f6))) (And.intro hj (And.intro (And.intro dd3 (And.intro dd4 (And.intro dd5 dd7))) (And.intro p0 (And.intro p1 (And.intro p2 (And.intro p3 p4)))))))
                clear hS f0 f1 f2 f6 hj dd3 dd4 dd5 dd7 p0 p1 p2 p3 p4 hdp hd
                refine Opn.mk ?_
                dsimp only
                go_simp
                obtain ⟨hS, ⟨f0, f1, f2, f6⟩, hj, ⟨dd3, dd4, dd5, dd7⟩, ⟨p0, p1, p2, p3, p4⟩⟩ := HF.out
                exact hK.out (x108, x109, x110, x111, x112, x113, .pointer (some ⟨w.heap.size + 1 + 1, 39, none⟩)) _ ⟨⟨fun h => (upd_no (by decide)).trans (hS.1 (upd_ne h (by decide))), fun h => hS.2 (by rw [upd_no (by decide)] at h; exact h)⟩, ⟨(fun h => f0 (upd_ne h (by decide))), (fun h => f1 (upd_ne h (by decide))), (fun h => f2 (upd_ne h (by decide))), (fun _ => rfl)⟩, j, hj, ⟨((upd_no (by decide)).trans dd3), ((upd_no (by decide)).trans dd4), ((upd_no (by decide)).trans dd5), ((upd_no (by decide)).trans dd7)⟩, ⟨p0, p1, p2, p3, p4⟩⟩
              · rintro d ⟨x108, x109, x110, x111, x112, x113, x114⟩ w' hI hd hdp KQ hK
                dsimp only at hI
                obtain ⟨hS, ⟨f0, f1, f2, f6⟩, j, hj, ⟨dd3, dd4, dd5, dd7⟩, ⟨p0, p1, p2, p3, p4⟩⟩ := hI
                obtain rfl := f6 (hdp 6 (by decide +kernel))
                obtain rfl := ph_eq (k := 2) dd7 hd dd5 (hdp 5 (by decide +kernel))
                have s := p3 rfl
                clear p0 p1 p2 p3 p4 hj
                have hd1 : d 1 = true := hdp 1 (by decide +kernel)
                obtain ⟨x, w2, a5, n5, m5, rfl, F1, N1⟩ := s
                have hb := hS.2 hd
                have z5 : w'.cell? ⟨(w.heap.size + 1 + 1), 39, none⟩ = some (.slice ya yn yc) := by
                  rw [cell_block hb]
                  have := HLL.out.rg 0 _ rfl
                  rwa [Nat.add_zero] at this
                have q5 : w'.frozen? ⟨(w.heap.size + 1 + 1), 39, none⟩ = false := by rw [frozen_block hb]; exact there_free HLL.out.th 39 (by decide)
                have HG : Hid _ := And.intro hb (And.intro F1 (And.intro N1 hd1))
                clear hS F1 N1 hb hd1
                have HF : Hid _ := And.intro (And.intro f0 (And.intro f1 (And.intro f2 f6))) (And.intro dd3 (And.intro dd4 (And.intro dd5 dd7)))
                clear f0 f1 f2 f6 dd3 dd4 dd5 dd7 hdp hd
                refine Opn.mk ?_
                dsimp only
                go_simp
                obtain ⟨hb, F1, N1, hd1⟩ := HG.out
                obtain ⟨⟨f0, f1, f2, f6⟩, ⟨dd3, dd4, dd5, dd7⟩⟩ := HF.out
                refine hK.out (x108, x109, x110, x111, x112, .slice a5 n5 m5, .pointer (some ⟨w.heap.size + 1 + 1, 39, none⟩)) _ ⟨?sg, ⟨(fun h => f0 (upd_ne h (by decide))), (fun h => f1 (upd_ne h (by decide))), (fun h => f2 (upd_ne h (by decide))), (fun _ => rfl)⟩, 4, by decide, ⟨((upd_no (by decide)).trans (dd3.trans (by decide))), ((upd_no (by decide)).trans (dd4.trans (by decide))), ((upd_no (by decide)).trans (dd5.trans (by decide))), (by simp [upd])⟩, ⟨(fun h => absurd h (by decide)), (fun h => absurd h (by decide)), (fun h => absurd h (by decide)), (fun h => absurd h (by decide)), (fun _ => ?new)⟩⟩
                case sg => exact ⟨fun _ => (upd_no (by decide)).trans hd1, fun h => by simp [upd] at h⟩
                case new =>
                  exact ⟨x, w2, w', a5, n5, m5, F1, N1, hb, rfl⟩
            case he108q3 =>
              rintro d ⟨x108, x109, x110, x111, x112, x113, x114⟩ w' hall hI
              dsimp only at hI
              obtain ⟨hS, ⟨f0, f1, f2, f6⟩, j, hj, ⟨dd3, dd4, dd5, dd7⟩, ⟨p0, p1, p2, p3, p4⟩⟩ := hI
              obtain rfl := ph_end (k := 3) hj dd7 (hall 7 (by decide))
              have s := p4 rfl
              clear hall hj f0 f1 f2 f6 dd3 dd4 dd5 dd7 p0 p1 p2 p3 p4
              obtain ⟨x, w2, w3, a5, n5, m5, ⟨ix, G1⟩, ⟨o3, g3⟩, hb3, rfl⟩ := s
              have HF : Hid _ := And.intro ix (And.intro G1 (And.intro o3 (And.intro g3 hb3)))
              clear ix G1 o3 g3 hb3 hS
              dsimp only
              go_wp2_with fail
              go_roundg (n - (i + 1))
              case measure => omega
              case rel =>
                obtain ⟨ix, G1, o3, g3, hb3⟩ := HF.out
                have HOW2 := (HP.out.ktt G1.g).own HOW.out (by decide)
                have hrl : ∀ g, Value.ownBlock (.slice ya yn yc) = some g → Y.heap.size ≤ g ∧ g < wr.heap.size := fun g hg => World.ownsRow.lt HOW.out g hg
                have gA : w2.grownBy w3 (Value.ownBlock (.slice ya yn yc)) := grown_trans' (grown_alloc _ _ _) g3
                have hsz2 := G1.g.size
                have hszY := HLL.out.size
                have bA : Below ((w.heap.size + 1) + 1) w2 w3 := ⟨gA.os, gA.tape, gA.output, gA.size, fun j hj => gA.block j (by omega) (fun e => by have := hrl j e.symm; omega)⟩
                have HS2 : skSeg l (q, 0) = skN (skSeg l) (i + 1) s1 := by rw [skN_succ, ← HQ.out]
                refine ⟨i + 1, xs ++ [x], a5, n5, m5, by go_num, by omega, Nat.le_refl _, by apply hide; simp [HXL.out], ?_, ?_, ?_, ?_, ?_⟩
                · refine LL.step (w3 := w3) HLL.out (.slice a5 n5 m5) (gA.os.trans G1.g.os) (gA.tape.trans G1.g.tape) (gA.output.trans G1.g.output) (Nat.le_trans hsz2 gA.size) (fun j h1 h2 => ?_) hmY hKm (by decide)
                  rw [gA.block j (by omega) (fun e => by have := (hrl j e.symm).1; omega)]
                  exact G1.g.block j (by omega) (fun e => by simp only [Option.some.injEq] at e; omega)
                · apply hide
                  have := (Win.grow (own_win o3) (grown_setCell (w := w3) (R := (w.heap.size + 1 + 1)) (j := 39) (u := .slice a5 n5 m5)) (by omega)).now
                  simpa using this
                · intro y hy
                  rcases List.mem_append.1 hy with hy | hy
                  · exact HOK.out y hy
                  · simp at hy
                    subst hy
                    exact ix
                · apply hide
                  rw [← HS2]
                  exact (G1.ps.keep bA).keep (grown_above grown_setCell (by omega) (by have := gA.size; omega))
                · intro h0 h2
                  have hle1 := (fwd_n (fwd_seg l) i).le s1 HP1.out.le
                  have hq0 : (skN (skSeg l) i s1).2 = 0 := by rw [← HQ.out]
                  have hq1 : (skN (skSeg l) i s1).1 = q := by rw [← HQ.out]
                  rw [List.flatMap_append, HBB.out h0 hq0]
                  rw [← HS2] at h2 ⊢
                  simp only [List.flatMap_cons, List.flatMap_nil, List.append_nil]
                  have hb := G1.b rfl h2
                  rw [hq1] at hle1 ⊢
                  exact (congrArg (rd l s1.1 q ++ ·) hb).trans (rd_app l hle1.1 ((fwd_seg l).le (q, 0) hle1.2).1).symm
          · have hE2 : ((E : Int) == 0) = false := by simpa using he
            have es : D19 l (0, 0) = skN (skSeg l) i s1 := by
              show skL l (skSeg l) (D18 l (0, 0)) = _
              rw [← HS0.out]
              show skN (skSeg l) (cS l s0.1 s0.2 1).1 (cS l s0.1 s0.2 1).2 = _
              rw [← HN.out.1, ← HN.out.2, show n = i + (n - i) by omega, skN_add]
              exact skN_stay (fwd_seg l).stay _ _ (by rw [← HEE.out]; exact he)
            have hk := ks19 hR2 hm2 H.out (w1 := wr) HOK.out (by
              have w1 : Win Y.heap.size wr (fun w => Fi.RdsK 5 w (.slice ya yn yc) xs.length (xs.flatMap cl_seg)) := by rw [HXL.out]; exact (own_win HOW.out).imp fun _ r => Fi.RdsK.of_own r
              exact w1) HLL.out (by rw [es]; exact HP.out) (by
              intro h0 h2
              rw [es] at h2 ⊢
              rw [← HS0.out] at h0 ⊢
              exact absurd h2 (by rw [← HEE.out]; exact he))
            have H2 : Hid (KG19 w.heap.size (w.heap.size + 1) (.slice ao l.length cap) l (w.heap.size + 1 + 1) V wr) := hk
            have HO2 : Hid (BxA wr w.heap.size 46 zmsg) := HLL.out.sk.box HO.out (by omega) (by omega)
            clear hk es HLL HOW HOK HXL HBB HP H HO HS0 HN HP0 HP1 hmY
            go_upto_region 30 with fail
            clear c2 hlt hltz hE2 he
            rename World => Y
            have H := H2
            have HO := HO2
            clear H2 HO2
            have HY : Hid (Y = Y) := rfl
            have hps := kg19_ps H.out
            have kk := kgroups w.heap.size (w.heap.size + 1) (.slice ao l.length cap) l Y _ _ hlb hps.1
            have HPS : Hid _ := hps
            clear hps
            go_wp2_with fail
            refine kk.mono ?_
            rintro er w1 ⟨gv, gs, rfl, ow, ix, G⟩
            obtain ⟨xa, xn, xc, rfl⟩ := own_sl ow
            have wn := ((own_win ow).both (Win.all fun x hx => (ix x hx).win)).imp fun _ r => And.intro (Fi.RdsK.of_own r.1) (fun x hx => (r.2 x hx).ok)
            have pr := True.intro
            have hps := HPS.out
            have ht1 : w1.there (w.heap.size + 1 + 1) 0 41 := there_block (G.g.block (w.heap.size + 1 + 1) (Nat.lt_of_lt_of_le hm2 hps.2.2) (fun e => by simp only [Option.some.injEq] at e; omega)) hps.2.1
            obtain ⟨u0, hu0⟩ := there_cell ht1 40 (by decide)
            have hf0 := there_free ht1 40 (by decide)
            have hk := ks20 hR2 hm2 hKm H.out pr wn G
            obtain ⟨Y2, hY2⟩ : ∃ Y2, Y2 = w1.setCell ⟨(w.heap.size + 1 + 1), 40, none⟩ (.slice xa xn xc) := ⟨_, rfl⟩
            have H2 : Hid (KG20 w.heap.size (w.heap.size + 1) (.slice ao l.length cap) l (w.heap.size + 1 + 1) V Y2) := by apply hide; rw [hY2]; exact hk.1
            have HO2 : Hid (BxA Y2 w.heap.size 46 zmsg) := by apply hide; rw [hY2]; exact hk.2.box HO.out (by omega) (by omega)
            have HY2 : Hid (Y2 = _) := hY2
            clear hk hY2 kk ht1 hps HPS pr G HY H HO wn ow ix
            go_upto_region 31 with fail
            clear hu0 hf0
            rw [← HY2.out]
            have HY : Hid (Y2 = Y2) := rfl
            have H := H2
            have HO := HO2
            clear H2 HO2 HY2
            rename World => Y
            obtain ⟨m, C, FN⟩ := kg20_fin H.out
            have kE := end_k Y (w.heap.size + 1) (.slice ao l.length cap) l _ _ FN.ps.ks FN.ps.rd.1
            have hG : gcode l = en l (D20 l (0, 0)).1 (D20 l (0, 0)).2 := by unfold gcode; rw [D_msg]
            rw [← hG] at kE
            have bel : Below w.heap.size w Y := HBW.out.trans (FN.bel _ (by omega) (by omega) (by omega))
            have i1 : (Try.prog.info? 46).map (·.size) = some C.length := by rw [FN.len]; exact Try.msg_info
            have i2 : (Try.prog.info? 46).map (·.size) = some C.toArray.size := by rw [List.size_toArray]; exact i1
            have i3 : zmsg.size = C.toArray.size := by
              have h41 : C.toArray.size = 41 := by rw [List.size_toArray]; exact FN.len
              rw [h41]
              rfl
            have HF : Hid _ := FN
            have HG : Hid _ := hG
            have HBL : Hid (Below w.heap.size w Y) := bel
            have HI : Hid _ := And.intro i1 (And.intro i2 i3)
            obtain ⟨E, hE⟩ : ∃ E, E = gcode l := ⟨_, rfl⟩
            rw [← hE] at kE
            have HE : Hid (E = gcode l) := hE
            clear hG bel hE FN i1 i2 i3 H
            by_cases h0 : E = 0
            · subst h0
              have hl2 : ¬ (1048576 : Int) < (l.length : Int) := by omega
              have hl3 : decide ((1048576 : Int) < (l.length : Int)) = false := decide_eq_false hl2
              go_wp2_with fail
              refine kE.mono ?_
              rintro e w2 ⟨rfl, nq, rfl⟩
              go_wp2_with (first | (refine wpList_load_mid rfl 46 (.tmp 5) rfl (w.heap.size + 1 + 1) 0 rfl C _ (w := Y.drewN nq) HF.out.rg Try.underlying46 rfl HI.out.1 ?_) | (refine wpList_store_row rfl 46 (.tmp 2) (.tmp 131) rfl w.heap.size 46 zmsg C.toArray HO.out rfl rfl HI.out.2.1 HI.out.2.2 HF.out.all ?_))
              refine bodyPost_ret (results_two rfl _ _ w.heap.size 46 C.toArray _ (.int .i64 0) rfl rfl (setRow_heap _ _ _ _ _ _ HO.out) Try.underlying46 rfl HI.out.2.1) rfl ?_
              have gY := setRow_grown (Y.drewN nq) w.heap.size C.toArray
              have e0 : gcode l = 0 := HE.out.symm
              refine ⟨(below_drewN HBL.out nq).trans (grown_above gY (Nat.le_refl _) (BxA.lt HO.out)), m, ?_, ((HF.out.ok.up (w' := Y.drewN nq) (Nat.le_refl _) (fun _ _ _ => rfl)).grow gY (by have := HZV.out; omega)).now, fun _ => ?_, fun h => absurd e0 h⟩
              · rw [e0, HF.out.eq]
                rfl
              · have hg0 : en l (D20 l (0, 0)).1 (D20 l (0, 0)).2 = 0 := by rw [← HG.out]; exact e0
                have hle := HF.out.ps.le
                have hby := HF.out.by'
                obtain ⟨s, hs⟩ : ∃ s, s = D20 l (0, 0) := ⟨_, rfl⟩
                rw [← hs] at hg0 hle hby
                unfold en at hg0
                by_cases he : s.2 = 0
                · rw [if_neg (by rw [he]; decide)] at hg0
                  by_cases hp : s.1 < l.length
                  · rw [if_pos hp] at hg0; cases hg0
                  · rw [hby he, show s.1 = l.length by omega]
                    simp [rd]
                · rw [if_pos he] at hg0
                  exact absurd hg0 he
            · have hE1 : ¬ (E : Int) = 0 := by omega
              have hE2 : ((E : Int) == 0) = false := by simpa using h0
              have hE3 : ((E : Int) != 0) = true := by simp [bne, hE2]
              go_wp2_with fail
              refine kE.mono ?_
              rintro e w2 ⟨rfl, nq, rfl⟩
              go_wp2_with (first | (refine wpList_store_row rfl 46 (.tmp 2) (.tmp 129) rfl w.heap.size 46 zmsg zmsg HO.out rfl rfl Try.msg_info rfl zmsg_all ?_))
              refine bodyPost_ret (results_two rfl _ _ w.heap.size 46 zmsg _ (.int .i64 (E : Int)) rfl rfl (setRow_heap _ _ _ _ _ _ HO.out) Try.underlying46 rfl Try.msg_info) rfl ?_
              have gY := setRow_grown (Y.drewN nq) w.heap.size zmsg
              refine ⟨(below_drewN HBL.out nq).trans (grown_above gY (Nat.le_refl _) (BxA.lt HO.out)), zeroM, ?_, zeroM_ok _, fun h => absurd (HE.out.trans h) h0, fun _ => rfl⟩
              rw [← HE.out]
              rfl
        · have hltz : ¬ (i : Int) < (n : Int) := by omega
          obtain rfl : i = n := by omega
          have es : D19 l (0, 0) = skN (skSeg l) i s1 := by
            show skL l (skSeg l) (D18 l (0, 0)) = _
            rw [← HS0.out]
            show skN (skSeg l) (cS l s0.1 s0.2 1).1 (cS l s0.1 s0.2 1).2 = _
            rw [← HN.out.1, ← HN.out.2]
          have hk := ks19 hR2 hm2 H.out (w1 := wr) HOK.out (by
            have w1 : Win Y.heap.size wr (fun w => Fi.RdsK 5 w (.slice ya yn yc) xs.length (xs.flatMap cl_seg)) := by rw [HXL.out]; exact (own_win HOW.out).imp fun _ r => Fi.RdsK.of_own r
            exact w1) HLL.out (by rw [es]; exact HP.out) (by
            intro h0 h2
            rw [es] at h2 ⊢
            rw [← HS0.out] at h0 ⊢
            have hs0 : s1.2 = 0 := Classical.byContradiction fun hn0 => by
              rw [skN_stay (fwd_seg l).stay _ _ hn0] at h2
              exact hn0 h2
            have hc0 : (skC l s0).2 = 0 := by show (cS l s0.1 s0.2 1).2.2 = 0; rw [← HN.out.2]; exact hs0
            have hcb := c_bytes l s0 h0 hc0
            have hle0 := (fwd_c l).le s0 HP0.out.le
            have hle1 := (fwd_n (fwd_seg l) i).le s1 HP1.out.le
            have e1 : (skC l s0).1 = s1.1 := by show (cS l s0.1 s0.2 1).2.1 = _; rw [← HN.out.2]
            have e4 : Num.uv i = rd l s0.1 s1.1 := by
              have := hcb.1
              rw [e1] at this
              rw [HN.out.1]
              exact this
            rw [e1] at hle0
            rw [HXL.out, HBB.out hs0 h2, e4]
            exact (rd_app l hle0.1 hle1.1).symm)
          have H2 : Hid (KG19 w.heap.size (w.heap.size + 1) (.slice ao l.length cap) l (w.heap.size + 1 + 1) V wr) := hk
          have HO2 : Hid (BxA wr w.heap.size 46 zmsg) := HLL.out.sk.box HO.out (by omega) (by omega)
          clear hk es HLL HOW HOK HXL HBB HP H HO HS0 HN HP0 HP1 hmY
          go_upto_region 30 with fail
          clear c2 hlt hltz
          rename World => Y
          have H := H2
          have HO := HO2
          clear H2 HO2
          have HY : Hid (Y = Y) := rfl
          have hps := kg19_ps H.out
          have kk := kgroups w.heap.size (w.heap.size + 1) (.slice ao l.length cap) l Y _ _ hlb hps.1
          have HPS : Hid _ := hps
          clear hps
          go_wp2_with fail
          refine kk.mono ?_
          rintro er w1 ⟨gv, gs, rfl, ow, ix, G⟩
          obtain ⟨xa, xn, xc, rfl⟩ := own_sl ow
          have wn := ((own_win ow).both (Win.all fun x hx => (ix x hx).win)).imp fun _ r => And.intro (Fi.RdsK.of_own r.1) (fun x hx => (r.2 x hx).ok)
          have pr := True.intro
          have hps := HPS.out
          have ht1 : w1.there (w.heap.size + 1 + 1) 0 41 := there_block (G.g.block (w.heap.size + 1 + 1) (Nat.lt_of_lt_of_le hm2 hps.2.2) (fun e => by simp only [Option.some.injEq] at e; omega)) hps.2.1
          obtain ⟨u0, hu0⟩ := there_cell ht1 40 (by decide)
          have hf0 := there_free ht1 40 (by decide)
          have hk := ks20 hR2 hm2 hKm H.out pr wn G
          obtain ⟨Y2, hY2⟩ : ∃ Y2, Y2 = w1.setCell ⟨(w.heap.size + 1 + 1), 40, none⟩ (.slice xa xn xc) := ⟨_, rfl⟩
          have H2 : Hid (KG20 w.heap.size (w.heap.size + 1) (.slice ao l.length cap) l (w.heap.size + 1 + 1) V Y2) := by apply hide; rw [hY2]; exact hk.1
          have HO2 : Hid (BxA Y2 w.heap.size 46 zmsg) := by apply hide; rw [hY2]; exact hk.2.box HO.out (by omega) (by omega)
          have HY2 : Hid (Y2 = _) := hY2
          clear hk hY2 kk ht1 hps HPS pr G HY H HO wn ow ix
          go_upto_region 31 with fail
          clear hu0 hf0
          rw [← HY2.out]
          have HY : Hid (Y2 = Y2) := rfl
          have H := H2
          have HO := HO2
          clear H2 HO2 HY2
          rename World => Y
          obtain ⟨m, C, FN⟩ := kg20_fin H.out
          have kE := end_k Y (w.heap.size + 1) (.slice ao l.length cap) l _ _ FN.ps.ks FN.ps.rd.1
          have hG : gcode l = en l (D20 l (0, 0)).1 (D20 l (0, 0)).2 := by unfold gcode; rw [D_msg]
          rw [← hG] at kE
          have bel : Below w.heap.size w Y := HBW.out.trans (FN.bel _ (by omega) (by omega) (by omega))
          have i1 : (Try.prog.info? 46).map (·.size) = some C.length := by rw [FN.len]; exact Try.msg_info
          have i2 : (Try.prog.info? 46).map (·.size) = some C.toArray.size := by rw [List.size_toArray]; exact i1
          have i3 : zmsg.size = C.toArray.size := by
            have h41 : C.toArray.size = 41 := by rw [List.size_toArray]; exact FN.len
            rw [h41]
            rfl
          have HF : Hid _ := FN
          have HG : Hid _ := hG
          have HBL : Hid (Below w.heap.size w Y) := bel
          have HI : Hid _ := And.intro i1 (And.intro i2 i3)
          obtain ⟨E, hE⟩ : ∃ E, E = gcode l := ⟨_, rfl⟩
          rw [← hE] at kE
          have HE : Hid (E = gcode l) := hE
          clear hG bel hE FN i1 i2 i3 H
          by_cases h0 : E = 0
          · subst h0
            have hl2 : ¬ (1048576 : Int) < (l.length : Int) := by omega
            have hl3 : decide ((1048576 : Int) < (l.length : Int)) = false := decide_eq_false hl2
            go_wp2_with fail
            refine kE.mono ?_
            rintro e w2 ⟨rfl, nq, rfl⟩
            go_wp2_with (first | (refine wpList_load_mid rfl 46 (.tmp 5) rfl (w.heap.size + 1 + 1) 0 rfl C _ (w := Y.drewN nq) HF.out.rg Try.underlying46 rfl HI.out.1 ?_) | (refine wpList_store_row rfl 46 (.tmp 2) (.tmp 131) rfl w.heap.size 46 zmsg C.toArray HO.out rfl rfl HI.out.2.1 HI.out.2.2 HF.out.all ?_))
            refine bodyPost_ret (results_two rfl _ _ w.heap.size 46 C.toArray _ (.int .i64 0) rfl rfl (setRow_heap _ _ _ _ _ _ HO.out) Try.underlying46 rfl HI.out.2.1) rfl ?_
            have gY := setRow_grown (Y.drewN nq) w.heap.size C.toArray
            have e0 : gcode l = 0 := HE.out.symm
            refine ⟨(below_drewN HBL.out nq).trans (grown_above gY (Nat.le_refl _) (BxA.lt HO.out)), m, ?_, ((HF.out.ok.up (w' := Y.drewN nq) (Nat.le_refl _) (fun _ _ _ => rfl)).grow gY (by have := HZV.out; omega)).now, fun _ => ?_, fun h => absurd e0 h⟩
            · rw [e0, HF.out.eq]
              rfl
            · have hg0 : en l (D20 l (0, 0)).1 (D20 l (0, 0)).2 = 0 := by rw [← HG.out]; exact e0
              have hle := HF.out.ps.le
              have hby := HF.out.by'
              obtain ⟨s, hs⟩ : ∃ s, s = D20 l (0, 0) := ⟨_, rfl⟩
              rw [← hs] at hg0 hle hby
              unfold en at hg0
              by_cases he : s.2 = 0
              · rw [if_neg (by rw [he]; decide)] at hg0
                by_cases hp : s.1 < l.length
                · rw [if_pos hp] at hg0; cases hg0
                · rw [hby he, show s.1 = l.length by omega]
                  simp [rd]
              · rw [if_pos he] at hg0
                exact absurd hg0 he
          · have hE1 : ¬ (E : Int) = 0 := by omega
            have hE2 : ((E : Int) == 0) = false := by simpa using h0
            have hE3 : ((E : Int) != 0) = true := by simp [bne, hE2]
            go_wp2_with fail
            refine kE.mono ?_
            rintro e w2 ⟨rfl, nq, rfl⟩
            go_wp2_with (first | (refine wpList_store_row rfl 46 (.tmp 2) (.tmp 129) rfl w.heap.size 46 zmsg zmsg HO.out rfl rfl Try.msg_info rfl zmsg_all ?_))
            refine bodyPost_ret (results_two rfl _ _ w.heap.size 46 zmsg _ (.int .i64 (E : Int)) rfl rfl (setRow_heap _ _ _ _ _ _ HO.out) Try.underlying46 rfl Try.msg_info) rfl ?_
            have gY := setRow_grown (Y.drewN nq) w.heap.size zmsg
            refine ⟨(below_drewN HBL.out nq).trans (grown_above gY (Nat.le_refl _) (BxA.lt HO.out)), zeroM, ?_, zeroM_ok _, fun h => absurd (HE.out.trans h) h0, fun _ => rfl⟩
            rw [← HE.out]
            rfl
end Go.Proofs.Ytpdlioidiobbbaa
