/- The program's readers of pieces, orders, partials, facts. -/
import Derived.Test.YtpdlioidiobbbaaRg3
namespace Go.Proofs.Ytpdlioidiobbbaa
open Go.RowKit

set_option maxRecDepth 100000 in
set_option maxHeartbeats 6400000 in
theorem gpiece (B R : Nat) (l : Bs) (w : World) (p e : Nat) (hlb : l.length ≤ 1048576) (h : PS B w R l p e) :
    Calls Try.prog 48 #[.pointer (some ⟨R, 0, none⟩)] w fun er w' => ∃ (y : Sg) (F T : Int), er = .returned (.agg #[.int .i64 y.F, .int .i64 y.T, .int .i64 y.V, .int .i64 y.P, .int .i64 y.C, .int .i64 F, .int .i64 T]) ∧ y.In ∧ In64 F ∧ In64 T ∧ Got B R l w w' (p, e) (fun s => skSpan l (skSeg l s)) (r_seg y ++ r_span F T) := by
  have hRw := h.lt
  have hple := h.le
  have h0 : PS B (w.alloc (.cells #[.int .i64 0, .int .i64 0, .int .i64 0, .int .i64 0, .int .i64 0, .int .i64 0, .int .i64 0] 40)) R l p e := h.keep ((Below.refl (R + 1) w).alloc hRw _)
  have x0 : BxA (w.alloc (.cells #[.int .i64 0, .int .i64 0, .int .i64 0, .int .i64 0, .int .i64 0, .int .i64 0, .int .i64 0] 40)) w.heap.size 40 #[.int .i64 0, .int .i64 0, .int .i64 0, .int .i64 0, .int .i64 0, .int .i64 0, .int .i64 0] := BxA.new _ _ _
  have G0 : w.grownBy (w.alloc (.cells #[.int .i64 0, .int .i64 0, .int .i64 0, .int .i64 0, .int .i64 0, .int .i64 0, .int .i64 0] 40)) (some R) := grown_alloc _ _ _
  have H0 : Hid _ := h0
  have X0 : Hid _ := x0
  have GG0 : Hid _ := G0
  clear h0 x0 G0 h
  go_enter Try.func48, Try.ntmps48
  go_wp2_with fail
  refine (gseg B R l _ _ _ hlb H0.out).mono ?_
  rintro er w1 ⟨y, rfl, iy, G⟩
  have G1 : Hid (Got B R l _ w1 _ _ _) := G
  have K := PS.ktt (H0.out) G.g
  have X1 : Hid (BxA w1 w.heap.size 40 #[.int .i64 0, .int .i64 0, .int .i64 0, .int .i64 0, .int .i64 0, .int .i64 0, .int .i64 0]) := BxA.grow X0.out G.g (by omega)
  have GG1 : Hid (w.grownBy w1 (some R)) := grown_trans' GG0.out G.g
  clear G K
  go_wp2_with fail
  refine (gspan B R l _ _ _ hlb G1.out.ps).mono ?_
  rintro er w2 ⟨F, T, rfl, iF, iT, G⟩
  have G2 : Hid (Got B R l _ w2 _ _ _) := G
  have K := PS.ktt (G1.out.ps) G.g
  have X2 : Hid (BxA w2 w.heap.size 40 #[.int .i64 0, .int .i64 0, .int .i64 0, .int .i64 0, .int .i64 0, .int .i64 0, .int .i64 0]) := BxA.grow X1.out G.g (by omega)
  have GG2 : Hid (w.grownBy w2 (some R)) := grown_trans' GG1.out G.g
  clear G K
  have z0 : w2.cell? ⟨w.heap.size, 0, none⟩ = some (.int .i64 0) := X2.out.cell 0 _ rfl
  have f0 : w2.frozen? ⟨w.heap.size, 0, none⟩ = false := X2.out.free 0
  have z1 : w2.cell? ⟨w.heap.size, 1, none⟩ = some (.int .i64 0) := X2.out.cell 1 _ rfl
  have f1 : w2.frozen? ⟨w.heap.size, 1, none⟩ = false := X2.out.free 1
  have z2 : w2.cell? ⟨w.heap.size, 2, none⟩ = some (.int .i64 0) := X2.out.cell 2 _ rfl
  have f2 : w2.frozen? ⟨w.heap.size, 2, none⟩ = false := X2.out.free 2
  have z3 : w2.cell? ⟨w.heap.size, 3, none⟩ = some (.int .i64 0) := X2.out.cell 3 _ rfl
  have f3 : w2.frozen? ⟨w.heap.size, 3, none⟩ = false := X2.out.free 3
  have z4 : w2.cell? ⟨w.heap.size, 4, none⟩ = some (.int .i64 0) := X2.out.cell 4 _ rfl
  have f4 : w2.frozen? ⟨w.heap.size, 4, none⟩ = false := X2.out.free 4
  have z5 : w2.cell? ⟨w.heap.size, 5, none⟩ = some (.int .i64 0) := X2.out.cell 5 _ rfl
  have f5 : w2.frozen? ⟨w.heap.size, 5, none⟩ = false := X2.out.free 5
  have z6 : w2.cell? ⟨w.heap.size, 6, none⟩ = some (.int .i64 0) := X2.out.cell 6 _ rfl
  have f6 : w2.frozen? ⟨w.heap.size, 6, none⟩ = false := X2.out.free 6
  obtain ⟨Y, hY⟩ : ∃ Y, Y = (((((((w2.setCell ⟨w.heap.size, 0, none⟩ (.int .i64 y.F)).setCell ⟨w.heap.size, 1, none⟩ (.int .i64 y.T)).setCell ⟨w.heap.size, 2, none⟩ (.int .i64 y.V)).setCell ⟨w.heap.size, 3, none⟩ (.int .i64 y.P)).setCell ⟨w.heap.size, 4, none⟩ (.int .i64 y.C)).setCell ⟨w.heap.size, 5, none⟩ (.int .i64 F)).setCell ⟨w.heap.size, 6, none⟩ (.int .i64 T)) := ⟨_, rfl⟩
  have gY : w2.grownBy Y (some w.heap.size) := by rw [hY]; exact (grown_trans' (grown_trans' (grown_trans' (grown_trans' (grown_trans' (grown_trans' grown_setCell grown_setCell) grown_setCell) grown_setCell) grown_setCell) grown_setCell) grown_setCell)
  have xY : BxA Y w.heap.size 40 #[.int .i64 y.F, .int .i64 y.T, .int .i64 y.V, .int .i64 y.P, .int .i64 y.C, .int .i64 F, .int .i64 T] := by rw [hY]; exact (((((((X2.out.set 0 (.int .i64 y.F)).set 1 (.int .i64 y.T)).set 2 (.int .i64 y.V)).set 3 (.int .i64 y.P)).set 4 (.int .i64 y.C)).set 5 (.int .i64 F)).set 6 (.int .i64 T))
  have HY : Hid (Y = _) := hY
  have GY : Hid (w2.grownBy Y (some w.heap.size)) := gY
  have y0 : Y.cell? ⟨w.heap.size, 0, none⟩ = some (.int .i64 y.F) := xY.cell 0 _ rfl
  have y1 : Y.cell? ⟨w.heap.size, 1, none⟩ = some (.int .i64 y.T) := xY.cell 1 _ rfl
  have y2 : Y.cell? ⟨w.heap.size, 2, none⟩ = some (.int .i64 y.V) := xY.cell 2 _ rfl
  have y3 : Y.cell? ⟨w.heap.size, 3, none⟩ = some (.int .i64 y.P) := xY.cell 3 _ rfl
  have y4 : Y.cell? ⟨w.heap.size, 4, none⟩ = some (.int .i64 y.C) := xY.cell 4 _ rfl
  have y5 : Y.cell? ⟨w.heap.size, 5, none⟩ = some (.int .i64 F) := xY.cell 5 _ rfl
  have y6 : Y.cell? ⟨w.heap.size, 6, none⟩ = some (.int .i64 T) := xY.cell 6 _ rfl
  clear hY gY xY
  go_wp2_with fail
  rw [← HY.out]
  refine bodyPost_ret (v := .agg #[.int .i64 y.F, .int .i64 y.T, .int .i64 y.V, .int .i64 y.P, .int .i64 y.C, .int .i64 F, .int .i64 T]) (by simp [results, Try.results48, go_sem, y0, y1, y2, y3, y4, y5, y6]) rfl ?_
  have KY := BxA.ktt X2.out GY.out
  have bY : Below (R + 1) w2 Y := grown_above GY.out hRw (BxA.lt X2.out)
  have GA1 : Got B R l w w1 (p, e) _ _ := ⟨G1.out.ps, GG1.out, G1.out.b⟩
  have GA2 := Got.comp hple (fwd_seg l) (fwd_span l) GA1 G2.out
  refine ⟨y, F, T, rfl, iy, iF, iT, ?_⟩
  exact ⟨GA2.ps.keep bY, fill_grown GG2.out GY.out (Nat.le_refl _), fun h0 h2 => by have e := GA2.b h0 h2; first | exact e | (refine Eq.trans ?_ e; simp [r_txt, rl, List.append_assoc]) | (refine Eq.trans ?_ e; simp [r_txt, rl, r_grp, List.append_assoc])⟩
theorem gyes' (B R : Nat) (l : Bs) (w : World) (p e : Nat) (h : PS B w R l p e) :
    Calls Try.prog 105 #[.pointer (some ⟨R, 0, none⟩)] w fun er w' => ∃ b : Bool, er = .returned (.bool b) ∧ Got B R l w w' (p, e) (skB l) (eb b) :=
  (gyes B R l w p e h).mono fun _ _ hh => by obtain ⟨b, h1, h2⟩ := hh; exact ⟨b, h1, h2⟩
set_option maxRecDepth 100000 in
set_option maxHeartbeats 6400000 in
theorem gorder (B R : Nat) (l : Bs) (w : World) (p e : Nat) (hlb : l.length ≤ 1048576) (h : PS B w R l p e) :
    Calls Try.prog 50 #[.pointer (some ⟨R, 0, none⟩)] w fun er w' => ∃ (od : Bool) (y : Sg) (n : Int), er = .returned (.agg #[.bool od, .int .i64 y.F, .int .i64 y.T, .int .i64 y.V, .int .i64 y.P, .int .i64 y.C, .int .i64 n]) ∧ y.In ∧ In64 n ∧ Got B R l w w' (p, e) (fun s => skU l (skSeg l (skB l s))) (eb od ++ (r_seg y ++ ei n)) := by
  have hRw := h.lt
  have hple := h.le
  have h0 : PS B (w.alloc (.cells #[.bool false, .int .i64 0, .int .i64 0, .int .i64 0, .int .i64 0, .int .i64 0, .int .i64 0] 42)) R l p e := h.keep ((Below.refl (R + 1) w).alloc hRw _)
  have x0 : BxA (w.alloc (.cells #[.bool false, .int .i64 0, .int .i64 0, .int .i64 0, .int .i64 0, .int .i64 0, .int .i64 0] 42)) w.heap.size 42 #[.bool false, .int .i64 0, .int .i64 0, .int .i64 0, .int .i64 0, .int .i64 0, .int .i64 0] := BxA.new _ _ _
  have G0 : w.grownBy (w.alloc (.cells #[.bool false, .int .i64 0, .int .i64 0, .int .i64 0, .int .i64 0, .int .i64 0, .int .i64 0] 42)) (some R) := grown_alloc _ _ _
  have H0 : Hid _ := h0
  have X0 : Hid _ := x0
  have GG0 : Hid _ := G0
  clear h0 x0 G0 h
  go_enter Try.func50, Try.ntmps50
  go_wp2_with fail
  refine (gyes' B R l _ _ _ H0.out).mono ?_
  rintro er w1 ⟨od, rfl, G⟩
  have G1 : Hid (Got B R l _ w1 _ _ _) := G
  have K := PS.ktt (H0.out) G.g
  have X1 : Hid (BxA w1 w.heap.size 42 #[.bool false, .int .i64 0, .int .i64 0, .int .i64 0, .int .i64 0, .int .i64 0, .int .i64 0]) := BxA.grow X0.out G.g (by omega)
  have GG1 : Hid (w.grownBy w1 (some R)) := grown_trans' GG0.out G.g
  clear G K
  go_wp2_with fail
  refine (gseg B R l _ _ _ hlb G1.out.ps).mono ?_
  rintro er w2 ⟨y, rfl, iy, G⟩
  have G2 : Hid (Got B R l _ w2 _ _ _) := G
  have K := PS.ktt (G1.out.ps) G.g
  have X2 : Hid (BxA w2 w.heap.size 42 #[.bool false, .int .i64 0, .int .i64 0, .int .i64 0, .int .i64 0, .int .i64 0, .int .i64 0]) := BxA.grow X1.out G.g (by omega)
  have GG2 : Hid (w.grownBy w2 (some R)) := grown_trans' GG1.out G.g
  clear G K
  go_wp2_with fail
  refine (gwhole B R l _ _ _ G2.out.ps).mono ?_
  rintro er w3 ⟨n, rfl, in_, G⟩
  have G3 : Hid (Got B R l _ w3 _ _ _) := G
  have K := PS.ktt (G2.out.ps) G.g
  have X3 : Hid (BxA w3 w.heap.size 42 #[.bool false, .int .i64 0, .int .i64 0, .int .i64 0, .int .i64 0, .int .i64 0, .int .i64 0]) := BxA.grow X2.out G.g (by omega)
  have GG3 : Hid (w.grownBy w3 (some R)) := grown_trans' GG2.out G.g
  clear G K
  have z0 : w3.cell? ⟨w.heap.size, 0, none⟩ = some (.bool false) := X3.out.cell 0 _ rfl
  have f0 : w3.frozen? ⟨w.heap.size, 0, none⟩ = false := X3.out.free 0
  have z1 : w3.cell? ⟨w.heap.size, 1, none⟩ = some (.int .i64 0) := X3.out.cell 1 _ rfl
  have f1 : w3.frozen? ⟨w.heap.size, 1, none⟩ = false := X3.out.free 1
  have z2 : w3.cell? ⟨w.heap.size, 2, none⟩ = some (.int .i64 0) := X3.out.cell 2 _ rfl
  have f2 : w3.frozen? ⟨w.heap.size, 2, none⟩ = false := X3.out.free 2
  have z3 : w3.cell? ⟨w.heap.size, 3, none⟩ = some (.int .i64 0) := X3.out.cell 3 _ rfl
  have f3 : w3.frozen? ⟨w.heap.size, 3, none⟩ = false := X3.out.free 3
  have z4 : w3.cell? ⟨w.heap.size, 4, none⟩ = some (.int .i64 0) := X3.out.cell 4 _ rfl
  have f4 : w3.frozen? ⟨w.heap.size, 4, none⟩ = false := X3.out.free 4
  have z5 : w3.cell? ⟨w.heap.size, 5, none⟩ = some (.int .i64 0) := X3.out.cell 5 _ rfl
  have f5 : w3.frozen? ⟨w.heap.size, 5, none⟩ = false := X3.out.free 5
  have z6 : w3.cell? ⟨w.heap.size, 6, none⟩ = some (.int .i64 0) := X3.out.cell 6 _ rfl
  have f6 : w3.frozen? ⟨w.heap.size, 6, none⟩ = false := X3.out.free 6
  obtain ⟨Y, hY⟩ : ∃ Y, Y = (((((((w3.setCell ⟨w.heap.size, 0, none⟩ (.bool od)).setCell ⟨w.heap.size, 1, none⟩ (.int .i64 y.F)).setCell ⟨w.heap.size, 2, none⟩ (.int .i64 y.T)).setCell ⟨w.heap.size, 3, none⟩ (.int .i64 y.V)).setCell ⟨w.heap.size, 4, none⟩ (.int .i64 y.P)).setCell ⟨w.heap.size, 5, none⟩ (.int .i64 y.C)).setCell ⟨w.heap.size, 6, none⟩ (.int .i64 n)) := ⟨_, rfl⟩
  have gY : w3.grownBy Y (some w.heap.size) := by rw [hY]; exact (grown_trans' (grown_trans' (grown_trans' (grown_trans' (grown_trans' (grown_trans' grown_setCell grown_setCell) grown_setCell) grown_setCell) grown_setCell) grown_setCell) grown_setCell)
  have xY : BxA Y w.heap.size 42 #[.bool od, .int .i64 y.F, .int .i64 y.T, .int .i64 y.V, .int .i64 y.P, .int .i64 y.C, .int .i64 n] := by rw [hY]; exact (((((((X3.out.set 0 (.bool od)).set 1 (.int .i64 y.F)).set 2 (.int .i64 y.T)).set 3 (.int .i64 y.V)).set 4 (.int .i64 y.P)).set 5 (.int .i64 y.C)).set 6 (.int .i64 n))
  have HY : Hid (Y = _) := hY
  have GY : Hid (w3.grownBy Y (some w.heap.size)) := gY
  have y0 : Y.cell? ⟨w.heap.size, 0, none⟩ = some (.bool od) := xY.cell 0 _ rfl
  have y1 : Y.cell? ⟨w.heap.size, 1, none⟩ = some (.int .i64 y.F) := xY.cell 1 _ rfl
  have y2 : Y.cell? ⟨w.heap.size, 2, none⟩ = some (.int .i64 y.T) := xY.cell 2 _ rfl
  have y3 : Y.cell? ⟨w.heap.size, 3, none⟩ = some (.int .i64 y.V) := xY.cell 3 _ rfl
  have y4 : Y.cell? ⟨w.heap.size, 4, none⟩ = some (.int .i64 y.P) := xY.cell 4 _ rfl
  have y5 : Y.cell? ⟨w.heap.size, 5, none⟩ = some (.int .i64 y.C) := xY.cell 5 _ rfl
  have y6 : Y.cell? ⟨w.heap.size, 6, none⟩ = some (.int .i64 n) := xY.cell 6 _ rfl
  clear hY gY xY
  go_wp2_with fail
  rw [← HY.out]
  refine bodyPost_ret (v := .agg #[.bool od, .int .i64 y.F, .int .i64 y.T, .int .i64 y.V, .int .i64 y.P, .int .i64 y.C, .int .i64 n]) (by simp [results, Try.results50, go_sem, y0, y1, y2, y3, y4, y5, y6]) rfl ?_
  have KY := BxA.ktt X3.out GY.out
  have bY : Below (R + 1) w3 Y := grown_above GY.out hRw (BxA.lt X3.out)
  have GA1 : Got B R l w w1 (p, e) _ _ := ⟨G1.out.ps, GG1.out, G1.out.b⟩
  have GA2 := Got.comp hple (fwd_b l) (fwd_seg l) GA1 G2.out
  have GA3 := Got.comp hple ((fwd_b l).comp (fwd_seg l)) (fwd_u l) GA2 G3.out
  refine ⟨od, y, n, rfl, iy, in_, ?_⟩
  exact ⟨GA3.ps.keep bY, fill_grown GG3.out GY.out (Nat.le_refl _), fun h0 h2 => by have e := GA3.b h0 h2; simp only [List.append_assoc] at e; first | exact e | (refine Eq.trans ?_ e; simp [r_txt, rl, List.append_assoc]) | (refine Eq.trans ?_ e; simp [r_txt, rl, r_grp, List.append_assoc])⟩
set_option maxRecDepth 100000 in
set_option maxHeartbeats 6400000 in
theorem gprt (B R : Nat) (l : Bs) (w : World) (p e : Nat) (hlb : l.length ≤ 1048576) (h : PS B w R l p e) :
    Calls Try.prog 108 #[.pointer (some ⟨R, 0, none⟩)] w fun er w' => ∃ x : Pt, er = .returned (.agg #[.int .u64 (x.n : Nat), .int .i64 x.v, x.tv]) ∧ PtIn w.heap.size w' x ∧ Got B R l w w' (p, e) (skPrt l) (r_prt x) := by
  have hRw := h.lt
  have hple := h.le
  have h0 : PS B (w.alloc (.cells #[.int .u64 0, .int .i64 0, .slice none 0 0] 87)) R l p e := h.keep ((Below.refl (R + 1) w).alloc hRw _)
  have x0 : BxA (w.alloc (.cells #[.int .u64 0, .int .i64 0, .slice none 0 0] 87)) w.heap.size 87 #[.int .u64 0, .int .i64 0, .slice none 0 0] := BxA.new _ _ _
  have G0 : w.grownBy (w.alloc (.cells #[.int .u64 0, .int .i64 0, .slice none 0 0] 87)) (some R) := grown_alloc _ _ _
  have H0 : Hid _ := h0
  have X0 : Hid _ := x0
  have GG0 : Hid _ := G0
  clear h0 x0 G0 h
  go_enter Try.func108, Try.ntmps108
  go_wp2_with fail
  refine (guint B R l _ _ _ H0.out).mono ?_
  rintro er w1 ⟨N, rfl, iN, G⟩
  have G1 : Hid (Got B R l _ w1 _ _ _) := G
  have K := PS.ktt (H0.out) G.g
  have X1 : Hid (BxA w1 w.heap.size 87 #[.int .u64 0, .int .i64 0, .slice none 0 0]) := BxA.grow X0.out G.g (by omega)
  have GG1 : Hid (w.grownBy w1 (some R)) := grown_trans' GG0.out G.g
  clear G K
  go_wp2_with fail
  refine (gint B R l _ _ _ G1.out.ps).mono ?_
  rintro er w2 ⟨V, rfl, iV, G⟩
  have G2 : Hid (Got B R l _ w2 _ _ _) := G
  have K := PS.ktt (G1.out.ps) G.g
  have X2 : Hid (BxA w2 w.heap.size 87 #[.int .u64 0, .int .i64 0, .slice none 0 0]) := BxA.grow X1.out G.g (by omega)
  have GG2 : Hid (w.grownBy w2 (some R)) := grown_trans' GG1.out G.g
  clear G K
  go_wp2_with fail
  refine (gtxts B R l _ _ _ hlb G2.out.ps).mono ?_
  rintro er w3 ⟨v2, xs2, rfl, O, I2, G⟩
  obtain ⟨a2, n2, c2, rfl⟩ := own_sl O
  have IH2_3 : Hid _ := I2
  clear I2
  have G3 : Hid (Got B R l _ w3 _ _ _) := G
  have K := PS.ktt (G2.out.ps) G.g
  have X3 : Hid (BxA w3 w.heap.size 87 #[.int .u64 0, .int .i64 0, .slice none 0 0]) := BxA.grow X2.out G.g (by omega)
  have GG3 : Hid (w.grownBy w3 (some R)) := grown_trans' GG2.out G.g
  have O2_3 : Hid (w3.ownsRow w.heap.size 9 1 (.slice a2 n2 c2) xs2.length (xs2.flatMap cl_str)) := own_mono O GG2.out.size
  clear O
  clear G K
  have z0 : w3.cell? ⟨w.heap.size, 0, none⟩ = some (.int .u64 0) := X3.out.cell 0 _ rfl
  have f0 : w3.frozen? ⟨w.heap.size, 0, none⟩ = false := X3.out.free 0
  have z1 : w3.cell? ⟨w.heap.size, 1, none⟩ = some (.int .i64 0) := X3.out.cell 1 _ rfl
  have f1 : w3.frozen? ⟨w.heap.size, 1, none⟩ = false := X3.out.free 1
  have z2 : w3.cell? ⟨w.heap.size, 2, none⟩ = some (.slice none 0 0) := X3.out.cell 2 _ rfl
  have f2 : w3.frozen? ⟨w.heap.size, 2, none⟩ = false := X3.out.free 2
  obtain ⟨Y, hY⟩ : ∃ Y, Y = (((w3.setCell ⟨w.heap.size, 0, none⟩ (.int .u64 (N : Nat))).setCell ⟨w.heap.size, 1, none⟩ (.int .i64 V)).setCell ⟨w.heap.size, 2, none⟩ (.slice a2 n2 c2)) := ⟨_, rfl⟩
  have gY : w3.grownBy Y (some w.heap.size) := by rw [hY]; exact (grown_trans' (grown_trans' grown_setCell grown_setCell) grown_setCell)
  have xY : BxA Y w.heap.size 87 #[.int .u64 (N : Nat), .int .i64 V, .slice a2 n2 c2] := by rw [hY]; exact (((X3.out.set 0 (.int .u64 (N : Nat))).set 1 (.int .i64 V)).set 2 (.slice a2 n2 c2))
  have HY : Hid (Y = _) := hY
  have GY : Hid (w3.grownBy Y (some w.heap.size)) := gY
  have y0 : Y.cell? ⟨w.heap.size, 0, none⟩ = some (.int .u64 (N : Nat)) := xY.cell 0 _ rfl
  have y1 : Y.cell? ⟨w.heap.size, 1, none⟩ = some (.int .i64 V) := xY.cell 1 _ rfl
  have y2 : Y.cell? ⟨w.heap.size, 2, none⟩ = some (.slice a2 n2 c2) := xY.cell 2 _ rfl
  clear hY gY xY
  go_wp2_with fail
  rw [← HY.out]
  refine bodyPost_ret (v := .agg #[.int .u64 (N : Nat), .int .i64 V, .slice a2 n2 c2]) (by simp [results, Try.results108, go_sem, y0, y1, y2]) rfl ?_
  have KY := BxA.ktt X3.out GY.out
  have bY : Below (R + 1) w3 Y := grown_above GY.out hRw (BxA.lt X3.out)
  have O2_Y := KY.own O2_3.out (by decide)
  have IH2_Y := IH2_3
  have GA1 : Got B R l w w1 (p, e) _ _ := ⟨G1.out.ps, GG1.out, G1.out.b⟩
  have GA2 := Got.comp hple (fwd_u l) (fwd_u l) GA1 G2.out
  have GA3 := Got.comp hple ((fwd_u l).comp (fwd_u l)) (fwd_txt l) GA2 G3.out
  refine ⟨⟨N, V, .slice a2 n2 c2, xs2⟩, rfl, ⟨iN, iV, O2_Y, IH2_Y.out⟩, ?_⟩
  exact ⟨GA3.ps.keep bY, fill_grown GG3.out GY.out (Nat.le_refl _), fun h0 h2 => by have e := GA3.b h0 h2; simp only [List.append_assoc] at e; first | exact e | (refine Eq.trans ?_ e; simp [r_txt, rl, List.append_assoc]) | (refine Eq.trans ?_ e; simp [r_txt, rl, r_grp, List.append_assoc])⟩
set_option maxRecDepth 100000 in
set_option maxHeartbeats 6400000 in
theorem gfact (B R : Nat) (l : Bs) (w : World) (p e : Nat) (hlb : l.length ≤ 1048576) (h : PS B w R l p e) :
    Calls Try.prog 44 #[.pointer (some ⟨R, 0, none⟩)] w fun er w' => ∃ (F : Int) (tv : Value) (ts : List Fi.Str) (mv : Value) (ms : List Int), er = .returned (.agg #[.int .i64 F, tv, mv]) ∧ In64 F ∧ w'.ownsRow w.heap.size 9 1 tv ts.length (ts.flatMap cl_str) ∧ (∀ t ∈ ts, t.length ≤ 1048576) ∧ w'.ownsRow w.heap.size 2 1 mv ms.length (ms.flatMap cl_i64) ∧ (∀ x ∈ ms, In64 x) ∧ Got B R l w w' (p, e) (skFact l) (ei F ++ (r_txt ts ++ (Num.uv ms.length ++ ms.flatMap ei))) := by
  have hRw := h.lt
  have hple := h.le
  have h0 : PS B (w.alloc (.cells #[.int .i64 0, .slice none 0 0, .slice none 0 0] 27)) R l p e := h.keep ((Below.refl (R + 1) w).alloc hRw _)
  have x0 : BxA (w.alloc (.cells #[.int .i64 0, .slice none 0 0, .slice none 0 0] 27)) w.heap.size 27 #[.int .i64 0, .slice none 0 0, .slice none 0 0] := BxA.new _ _ _
  have G0 : w.grownBy (w.alloc (.cells #[.int .i64 0, .slice none 0 0, .slice none 0 0] 27)) (some R) := grown_alloc _ _ _
  have H0 : Hid _ := h0
  have X0 : Hid _ := x0
  have GG0 : Hid _ := G0
  clear h0 x0 G0 h
  go_enter Try.func44, Try.ntmps44
  go_wp2_with fail
  refine (gint B R l _ _ _ H0.out).mono ?_
  rintro er w1 ⟨F, rfl, iF, G⟩
  have G1 : Hid (Got B R l _ w1 _ _ _) := G
  have K := PS.ktt (H0.out) G.g
  have X1 : Hid (BxA w1 w.heap.size 27 #[.int .i64 0, .slice none 0 0, .slice none 0 0]) := BxA.grow X0.out G.g (by omega)
  have GG1 : Hid (w.grownBy w1 (some R)) := grown_trans' GG0.out G.g
  clear G K
  go_wp2_with fail
  refine (gtxts B R l _ _ _ hlb G1.out.ps).mono ?_
  rintro er w2 ⟨v1, xs1, rfl, O, I1, G⟩
  obtain ⟨a1, n1, c1, rfl⟩ := own_sl O
  have IH1_2 : Hid _ := I1
  clear I1
  have G2 : Hid (Got B R l _ w2 _ _ _) := G
  have K := PS.ktt (G1.out.ps) G.g
  have X2 : Hid (BxA w2 w.heap.size 27 #[.int .i64 0, .slice none 0 0, .slice none 0 0]) := BxA.grow X1.out G.g (by omega)
  have GG2 : Hid (w.grownBy w2 (some R)) := grown_trans' GG1.out G.g
  have O1_2 : Hid (w2.ownsRow w.heap.size 9 1 (.slice a1 n1 c1) xs1.length (xs1.flatMap cl_str)) := own_mono O GG1.out.size
  clear O
  clear G K
  go_wp2_with fail
  refine (gi64s B R l _ _ _ hlb G2.out.ps).mono ?_
  rintro er w3 ⟨v2, xs2, rfl, O, I2, G⟩
  obtain ⟨a2, n2, c2, rfl⟩ := own_sl O
  have IH2_3 : Hid _ := I2
  clear I2
  have G3 : Hid (Got B R l _ w3 _ _ _) := G
  have K := PS.ktt (G2.out.ps) G.g
  have X3 : Hid (BxA w3 w.heap.size 27 #[.int .i64 0, .slice none 0 0, .slice none 0 0]) := BxA.grow X2.out G.g (by omega)
  have GG3 : Hid (w.grownBy w3 (some R)) := grown_trans' GG2.out G.g
  have O1_3 : Hid (w3.ownsRow w.heap.size 9 1 (.slice a1 n1 c1) xs1.length (xs1.flatMap cl_str)) := K.own O1_2.out (by decide)
  have O2_3 : Hid (w3.ownsRow w.heap.size 2 1 (.slice a2 n2 c2) xs2.length (xs2.flatMap cl_i64)) := own_mono O GG2.out.size
  clear O
  clear G K
  have z0 : w3.cell? ⟨w.heap.size, 0, none⟩ = some (.int .i64 0) := X3.out.cell 0 _ rfl
  have f0 : w3.frozen? ⟨w.heap.size, 0, none⟩ = false := X3.out.free 0
  have z1 : w3.cell? ⟨w.heap.size, 1, none⟩ = some (.slice none 0 0) := X3.out.cell 1 _ rfl
  have f1 : w3.frozen? ⟨w.heap.size, 1, none⟩ = false := X3.out.free 1
  have z2 : w3.cell? ⟨w.heap.size, 2, none⟩ = some (.slice none 0 0) := X3.out.cell 2 _ rfl
  have f2 : w3.frozen? ⟨w.heap.size, 2, none⟩ = false := X3.out.free 2
  obtain ⟨Y, hY⟩ : ∃ Y, Y = (((w3.setCell ⟨w.heap.size, 0, none⟩ (.int .i64 F)).setCell ⟨w.heap.size, 1, none⟩ (.slice a1 n1 c1)).setCell ⟨w.heap.size, 2, none⟩ (.slice a2 n2 c2)) := ⟨_, rfl⟩
  have gY : w3.grownBy Y (some w.heap.size) := by rw [hY]; exact (grown_trans' (grown_trans' grown_setCell grown_setCell) grown_setCell)
  have xY : BxA Y w.heap.size 27 #[.int .i64 F, .slice a1 n1 c1, .slice a2 n2 c2] := by rw [hY]; exact (((X3.out.set 0 (.int .i64 F)).set 1 (.slice a1 n1 c1)).set 2 (.slice a2 n2 c2))
  have HY : Hid (Y = _) := hY
  have GY : Hid (w3.grownBy Y (some w.heap.size)) := gY
  have y0 : Y.cell? ⟨w.heap.size, 0, none⟩ = some (.int .i64 F) := xY.cell 0 _ rfl
  have y1 : Y.cell? ⟨w.heap.size, 1, none⟩ = some (.slice a1 n1 c1) := xY.cell 1 _ rfl
  have y2 : Y.cell? ⟨w.heap.size, 2, none⟩ = some (.slice a2 n2 c2) := xY.cell 2 _ rfl
  clear hY gY xY
  go_wp2_with fail
  rw [← HY.out]
  refine bodyPost_ret (v := .agg #[.int .i64 F, .slice a1 n1 c1, .slice a2 n2 c2]) (by simp [results, Try.results44, go_sem, y0, y1, y2]) rfl ?_
  have KY := BxA.ktt X3.out GY.out
  have bY : Below (R + 1) w3 Y := grown_above GY.out hRw (BxA.lt X3.out)
  have O1_Y := KY.own O1_3.out (by decide)
  have IH1_Y := IH1_2
  have O2_Y := KY.own O2_3.out (by decide)
  have IH2_Y := IH2_3
  have GA1 : Got B R l w w1 (p, e) _ _ := ⟨G1.out.ps, GG1.out, G1.out.b⟩
  have GA2 := Got.comp hple (fwd_u l) (fwd_txt l) GA1 G2.out
  have GA3 := Got.comp hple ((fwd_u l).comp (fwd_txt l)) (fwd_l (fwd_u l)) GA2 G3.out
  refine ⟨F, _, xs1, _, xs2, rfl, iF, O1_Y, IH1_Y.out, O2_Y, IH2_Y.out, ?_⟩
  exact ⟨GA3.ps.keep bY, fill_grown GG3.out GY.out (Nat.le_refl _), fun h0 h2 => by have e := GA3.b h0 h2; simp only [List.append_assoc] at e; first | exact e | (refine Eq.trans ?_ e; simp [r_txt, rl, List.append_assoc]) | (refine Eq.trans ?_ e; simp [r_txt, rl, r_grp, List.append_assoc])⟩
theorem gprts (B R : Nat) (l : Bs) (w : World) (p e : Nat) (hlb : l.length ≤ 1048576) (h : PS B w R l p e) :
    Calls Try.prog 107 #[.pointer (some ⟨R, 0, none⟩), .func (.func 108) #[.pointer (some ⟨R, 0, none⟩)] #[]] w fun er w' => ∃ (v : Value) (xs : List (Pt)), er = .returned v ∧ w'.ownsRow w.heap.size 87 3 v xs.length (xs.flatMap cl_prt) ∧ (∀ x ∈ xs, PtIn w.heap.size w' x) ∧ Got B R l w w' (p, e) (skL l (skPrt l)) (Num.uv xs.length ++ xs.flatMap r_prt) :=
  rl_prt B R l w p e _ r_prt (fun w' x => PtIn w.heap.size w' x) hlb (fwd_prt l) h (fun _ _ _ h k => PtIn.keep h k (by decide)) (fun x w h => own_sl h.r) fun w1 p1 e1 hk h1 => (gprt B R l w1 p1 e1 hlb h1).mono fun ev w' hh => by
    obtain ⟨x, e1, o1, g1⟩ := hh
    exact ⟨x, e1, o1.mono hk.1, g1⟩
set_option maxRecDepth 100000 in
set_option maxHeartbeats 6400000 in
theorem ggrp (B R : Nat) (l : Bs) (w : World) (p e : Nat) (hlb : l.length ≤ 1048576) (h : PS B w R l p e) :
    Calls Try.prog 56 #[.pointer (some ⟨R, 0, none⟩)] w fun er w' => ∃ x : Gp, er = .returned (.agg #[.int .i64 x.s, .int .i64 x.b, x.dv, x.pv]) ∧ GpIn w.heap.size w' x ∧ Got B R l w w' (p, e) (skGrp l) (r_grp x) := by
  have hRw := h.lt
  have hple := h.le
  have h0 : PS B (w.alloc (.cells #[.int .i64 0, .int .i64 0, .slice none 0 0, .slice none 0 0] 77)) R l p e := h.keep ((Below.refl (R + 1) w).alloc hRw _)
  have x0 : BxA (w.alloc (.cells #[.int .i64 0, .int .i64 0, .slice none 0 0, .slice none 0 0] 77)) w.heap.size 77 #[.int .i64 0, .int .i64 0, .slice none 0 0, .slice none 0 0] := BxA.new _ _ _
  have G0 : w.grownBy (w.alloc (.cells #[.int .i64 0, .int .i64 0, .slice none 0 0, .slice none 0 0] 77)) (some R) := grown_alloc _ _ _
  have H0 : Hid _ := h0
  have X0 : Hid _ := x0
  have GG0 : Hid _ := G0
  clear h0 x0 G0 h
  go_enter Try.func56, Try.ntmps56
  go_wp2_with fail
  refine (gwhole B R l _ _ _ H0.out).mono ?_
  rintro er w1 ⟨S, rfl, iS, G⟩
  have G1 : Hid (Got B R l _ w1 _ _ _) := G
  have K := PS.ktt (H0.out) G.g
  have X1 : Hid (BxA w1 w.heap.size 77 #[.int .i64 0, .int .i64 0, .slice none 0 0, .slice none 0 0]) := BxA.grow X0.out G.g (by omega)
  have GG1 : Hid (w.grownBy w1 (some R)) := grown_trans' GG0.out G.g
  clear G K
  go_wp2_with fail
  refine (gint B R l _ _ _ G1.out.ps).mono ?_
  rintro er w2 ⟨U, rfl, iU, G⟩
  have G2 : Hid (Got B R l _ w2 _ _ _) := G
  have K := PS.ktt (G1.out.ps) G.g
  have X2 : Hid (BxA w2 w.heap.size 77 #[.int .i64 0, .int .i64 0, .slice none 0 0, .slice none 0 0]) := BxA.grow X1.out G.g (by omega)
  have GG2 : Hid (w.grownBy w2 (some R)) := grown_trans' GG1.out G.g
  clear G K
  go_wp2_with fail
  refine (gtxts B R l _ _ _ hlb G2.out.ps).mono ?_
  rintro er w3 ⟨v2, xs2, rfl, O, I2, G⟩
  obtain ⟨a2, n2, c2, rfl⟩ := own_sl O
  have IH2_3 : Hid _ := I2
  clear I2
  have G3 : Hid (Got B R l _ w3 _ _ _) := G
  have K := PS.ktt (G2.out.ps) G.g
  have X3 : Hid (BxA w3 w.heap.size 77 #[.int .i64 0, .int .i64 0, .slice none 0 0, .slice none 0 0]) := BxA.grow X2.out G.g (by omega)
  have GG3 : Hid (w.grownBy w3 (some R)) := grown_trans' GG2.out G.g
  have O2_3 : Hid (w3.ownsRow w.heap.size 9 1 (.slice a2 n2 c2) xs2.length (xs2.flatMap cl_str)) := own_mono O GG2.out.size
  clear O
  clear G K
  go_wp2_with fail
  refine (gprts B R l _ _ _ hlb G3.out.ps).mono ?_
  rintro er w4 ⟨v3, xs3, rfl, O, I3, G⟩
  obtain ⟨a3, n3, c3, rfl⟩ := own_sl O
  have IH3_4 : Hid _ := I3
  clear I3
  have G4 : Hid (Got B R l _ w4 _ _ _) := G
  have K := PS.ktt (G3.out.ps) G.g
  have X4 : Hid (BxA w4 w.heap.size 77 #[.int .i64 0, .int .i64 0, .slice none 0 0, .slice none 0 0]) := BxA.grow X3.out G.g (by omega)
  have GG4 : Hid (w.grownBy w4 (some R)) := grown_trans' GG3.out G.g
  have O2_4 : Hid (w4.ownsRow w.heap.size 9 1 (.slice a2 n2 c2) xs2.length (xs2.flatMap cl_str)) := K.own O2_3.out (by decide)
  have O3_4 : Hid (w4.ownsRow w.heap.size 87 3 (.slice a3 n3 c3) xs3.length (xs3.flatMap cl_prt)) := own_mono O GG3.out.size
  have IH3_4' := IH3_4
  clear IH3_4
  have IH3_4 : Hid _ := fun x hx => (PtIn.mono (IH3_4'.out x hx) GG3.out.size)
  clear O
  clear G K
  have z0 : w4.cell? ⟨w.heap.size, 0, none⟩ = some (.int .i64 0) := X4.out.cell 0 _ rfl
  have f0 : w4.frozen? ⟨w.heap.size, 0, none⟩ = false := X4.out.free 0
  have z1 : w4.cell? ⟨w.heap.size, 1, none⟩ = some (.int .i64 0) := X4.out.cell 1 _ rfl
  have f1 : w4.frozen? ⟨w.heap.size, 1, none⟩ = false := X4.out.free 1
  have z2 : w4.cell? ⟨w.heap.size, 2, none⟩ = some (.slice none 0 0) := X4.out.cell 2 _ rfl
  have f2 : w4.frozen? ⟨w.heap.size, 2, none⟩ = false := X4.out.free 2
  have z3 : w4.cell? ⟨w.heap.size, 3, none⟩ = some (.slice none 0 0) := X4.out.cell 3 _ rfl
  have f3 : w4.frozen? ⟨w.heap.size, 3, none⟩ = false := X4.out.free 3
  obtain ⟨Y, hY⟩ : ∃ Y, Y = ((((w4.setCell ⟨w.heap.size, 0, none⟩ (.int .i64 S)).setCell ⟨w.heap.size, 1, none⟩ (.int .i64 U)).setCell ⟨w.heap.size, 2, none⟩ (.slice a2 n2 c2)).setCell ⟨w.heap.size, 3, none⟩ (.slice a3 n3 c3)) := ⟨_, rfl⟩
  have gY : w4.grownBy Y (some w.heap.size) := by rw [hY]; exact (grown_trans' (grown_trans' (grown_trans' grown_setCell grown_setCell) grown_setCell) grown_setCell)
  have xY : BxA Y w.heap.size 77 #[.int .i64 S, .int .i64 U, .slice a2 n2 c2, .slice a3 n3 c3] := by rw [hY]; exact ((((X4.out.set 0 (.int .i64 S)).set 1 (.int .i64 U)).set 2 (.slice a2 n2 c2)).set 3 (.slice a3 n3 c3))
  have HY : Hid (Y = _) := hY
  have GY : Hid (w4.grownBy Y (some w.heap.size)) := gY
  have y0 : Y.cell? ⟨w.heap.size, 0, none⟩ = some (.int .i64 S) := xY.cell 0 _ rfl
  have y1 : Y.cell? ⟨w.heap.size, 1, none⟩ = some (.int .i64 U) := xY.cell 1 _ rfl
  have y2 : Y.cell? ⟨w.heap.size, 2, none⟩ = some (.slice a2 n2 c2) := xY.cell 2 _ rfl
  have y3 : Y.cell? ⟨w.heap.size, 3, none⟩ = some (.slice a3 n3 c3) := xY.cell 3 _ rfl
  clear hY gY xY
  go_wp2_with fail
  rw [← HY.out]
  refine bodyPost_ret (v := .agg #[.int .i64 S, .int .i64 U, .slice a2 n2 c2, .slice a3 n3 c3]) (by simp [results, Try.results56, go_sem, y0, y1, y2, y3]) rfl ?_
  have KY := BxA.ktt X4.out GY.out
  have bY : Below (R + 1) w4 Y := grown_above GY.out hRw (BxA.lt X4.out)
  have O2_Y := KY.own O2_4.out (by decide)
  have IH2_Y := IH2_3
  have O3_Y := KY.own O3_4.out (by decide)
  have IH3_Y : Hid _ := fun x hx => (PtIn.keep (IH3_4.out x hx) KY (by decide))
  have GA1 : Got B R l w w1 (p, e) _ _ := ⟨G1.out.ps, GG1.out, G1.out.b⟩
  have GA2 := Got.comp hple (fwd_u l) (fwd_u l) GA1 G2.out
  have GA3 := Got.comp hple ((fwd_u l).comp (fwd_u l)) (fwd_txt l) GA2 G3.out
  have GA4 := Got.comp hple (((fwd_u l).comp (fwd_u l)).comp (fwd_txt l)) (fwd_l (fwd_prt l)) GA3 G4.out
  refine ⟨⟨S, U, .slice a2 n2 c2, xs2, .slice a3 n3 c3, xs3⟩, rfl, ⟨iS, iU, O2_Y, IH2_Y.out, O3_Y, IH3_Y.out⟩, ?_⟩
  exact ⟨GA4.ps.keep bY, fill_grown GG4.out GY.out (Nat.le_refl _), fun h0 h2 => by have e := GA4.b h0 h2; simp only [List.append_assoc] at e; first | exact e | (refine Eq.trans ?_ e; simp [r_txt, rl, List.append_assoc]) | (refine Eq.trans ?_ e; simp [r_txt, rl, r_grp, List.append_assoc])⟩
theorem ggrps (B R : Nat) (l : Bs) (w : World) (p e : Nat) (hlb : l.length ≤ 1048576) (h : PS B w R l p e) :
    Calls Try.prog 55 #[.pointer (some ⟨R, 0, none⟩), .func (.func 56) #[.pointer (some ⟨R, 0, none⟩)] #[]] w fun er w' => ∃ (v : Value) (xs : List (Gp)), er = .returned v ∧ w'.ownsRow w.heap.size 77 4 v xs.length (xs.flatMap cl_grp) ∧ (∀ x ∈ xs, GpIn w.heap.size w' x) ∧ Got B R l w w' (p, e) (skL l (skGrp l)) (Num.uv xs.length ++ xs.flatMap r_grp) :=
  rl_grp B R l w p e _ r_grp (fun w' x => GpIn w.heap.size w' x) hlb (fwd_grp l) h (fun _ _ _ h k => GpIn.keep h k (by decide) (by decide)) (fun x w h => ⟨own_sl h.r, own_sl h.p⟩) fun w1 p1 e1 hk h1 => (ggrp B R l w1 p1 e1 hlb h1).mono fun ev w' hh => by
    obtain ⟨x, e1, o1, g1⟩ := hh
    exact ⟨x, e1, o1.mono hk.1, g1⟩
end Go.Proofs.Ytpdlioidiobbbaa
