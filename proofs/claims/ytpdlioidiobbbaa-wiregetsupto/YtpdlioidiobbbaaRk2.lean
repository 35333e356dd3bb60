/- The reference's readers of segments. -/
import Derived.Test.YtpdlioidiobbbaaRk1
namespace Go.Proofs.Ytpdlioidiobbbaa
open Go.RowKit

set_option maxRecDepth 100000 in
set_option maxHeartbeats 3200000 in
theorem kseg (B R : Nat) (v : Value) (l : Bs) (w : World) (p e : Nat) (hlb : l.length ≤ 1048576) (h : RP B R v l w p e) :
    Calls Try.prog 64 #[.pointer (some ⟨R, 0, none⟩)] w fun er w' => ∃ x : Sg, er = .returned (.agg #[.int .i64 x.F, .int .i64 x.T, .int .i64 x.V, .int .i64 x.P, .int .i64 x.C]) ∧ x.In ∧ GK B R v l w w' (p, e) (skSeg l) (r_seg x) := by
  have hRw := h.lt
  have hple := h.le
  obtain ⟨W, hW⟩ : ∃ W, W = w.alloc (.cells #[.int .i64 0, .int .i64 0, .int .i64 0, .int .i64 0, .int .i64 0] 38) := ⟨_, rfl⟩
  have h0 : RP B R v l W p e := by rw [hW]; exact h.keep ((Below.refl (R + 1) w).alloc hRw _)
  have x0 : BxA W w.heap.size 38 #[.int .i64 0, .int .i64 0, .int .i64 0, .int .i64 0, .int .i64 0] := by rw [hW]; exact BxA.new _ _ _
  have g0 : w.grownBy W (some R) := by rw [hW]; exact grown_alloc _ _ _
  have HW : Hid (W = _) := hW
  have kS := kspan B R v l W p e hlb h0
  have H0 : Hid _ := And.intro x0 g0
  clear hW h0 x0 g0 h
  go_enter Try.func64, Try.ntmps64
  go_upto_region 1 with fail
  rw [← HW.out]
  go_wp2_with fail
  refine kS.mono ?_
  rintro er w1 ⟨F, T, rfl, iF, iT, G1⟩
  obtain ⟨X, hX⟩ : ∃ X, X = w1.alloc (.cells #[.int .i64 F, .int .i64 T] 29) := ⟨_, rfl⟩
  have hR1 := G1.ps.lt
  have G1' : GK B R v l w X (p, e) (skSpan l) (r_span F T) := by
    refine ⟨?_, ?_, G1.b⟩
    · rw [hX]; exact G1.ps.keep ((Below.refl (R + 1) w1).alloc hR1 _)
    · rw [hX]; exact grown_trans' (grown_trans' H0.out.2 G1.g) (grown_alloc _ _ _)
  have xs : BxA X w1.heap.size 29 #[.int .i64 F, .int .i64 T] := by rw [hX]; exact BxA.new _ _ _
  have xb : BxA X w.heap.size 38 #[.int .i64 0, .int .i64 0, .int .i64 0, .int .i64 0, .int .i64 0] := by
    have := BxA.grow H0.out.1 G1.g (by omega)
    rw [hX]
    unfold BxA
    rw [Below.heap_alloc _ _ _ (BxA.lt this)]
    exact this
  have hlt1 : w.heap.size < w1.heap.size := BxA.lt (BxA.grow H0.out.1 G1.g (by omega))
  have HX : Hid (X = _) := hX
  have k1 := kwhole B R v l X _ _ G1'.ps
  have H1 : Hid _ := And.intro iF (And.intro iT (And.intro G1' (And.intro xs xb)))
  clear kS hX G1 G1' xs xb iF iT
  go_upto_region 2 with fail
  rw [← HX.out]
  go_wp2_with fail
  refine k1.mono ?_
  rintro er w2 ⟨V, rfl, iV, G2⟩
  have k2 := kwhole B R v l w2 _ _ G2.ps
  have H2 : Hid _ := And.intro iV G2
  clear k1 iV G2
  go_wp2_with fail
  refine k2.mono ?_
  rintro er w3 ⟨P, rfl, iP, G3⟩
  have k3 := kwhole B R v l w3 _ _ G3.ps
  have H3 : Hid _ := And.intro iP G3
  clear k2 iP G3
  go_wp2_with fail
  refine k3.mono ?_
  rintro er w4 ⟨C, rfl, iC, G4⟩
  obtain ⟨iF, iT, G1, xs, xb⟩ := H1.out
  have xs4 := BxA.grow (BxA.grow (BxA.grow xs H2.out.2.g (by omega)) H3.out.2.g (by omega)) G4.g (by omega)
  have XB := BxA.grow (BxA.grow (BxA.grow xb H2.out.2.g (by omega)) H3.out.2.g (by omega)) G4.g (by omega)
  have XBH : Hid _ := XB
  have q0 : w4.cell? ⟨w1.heap.size, 0, none⟩ = some (.int .i64 F) := BxA.cell xs4 0 _ rfl
  have q1 : w4.cell? ⟨w1.heap.size, 1, none⟩ = some (.int .i64 T) := BxA.cell xs4 1 _ rfl
  have H4 : Hid _ := And.intro iC G4
  have H1' : Hid _ := And.intro iF (And.intro iT G1)
  have z0 : w4.cell? ⟨w.heap.size, 0, none⟩ = some (.int .i64 0) := BxA.cell XB 0 _ rfl
  have f0 : w4.frozen? ⟨w.heap.size, 0, none⟩ = false := BxA.free XB 0
  have z1 : w4.cell? ⟨w.heap.size, 1, none⟩ = some (.int .i64 0) := BxA.cell XB 1 _ rfl
  have f1 : w4.frozen? ⟨w.heap.size, 1, none⟩ = false := BxA.free XB 1
  have z2 : w4.cell? ⟨w.heap.size, 2, none⟩ = some (.int .i64 0) := BxA.cell XB 2 _ rfl
  have f2 : w4.frozen? ⟨w.heap.size, 2, none⟩ = false := BxA.free XB 2
  have z3 : w4.cell? ⟨w.heap.size, 3, none⟩ = some (.int .i64 0) := BxA.cell XB 3 _ rfl
  have f3 : w4.frozen? ⟨w.heap.size, 3, none⟩ = false := BxA.free XB 3
  have z4 : w4.cell? ⟨w.heap.size, 4, none⟩ = some (.int .i64 0) := BxA.cell XB 4 _ rfl
  have f4 : w4.frozen? ⟨w.heap.size, 4, none⟩ = false := BxA.free XB 4
  obtain ⟨Y, hY⟩ : ∃ Y, Y = (((((w4.setCell ⟨w.heap.size, 0, none⟩ (.int .i64 F)).setCell ⟨w.heap.size, 1, none⟩ (.int .i64 T)).setCell ⟨w.heap.size, 2, none⟩ (.int .i64 V)).setCell ⟨w.heap.size, 3, none⟩ (.int .i64 P)).setCell ⟨w.heap.size, 4, none⟩ (.int .i64 C)) := ⟨_, rfl⟩
  have gY : w4.grownBy Y (some (w.heap.size)) := by rw [hY]; exact (grown_trans' (grown_trans' (grown_trans' (grown_trans' grown_setCell grown_setCell) grown_setCell) grown_setCell) grown_setCell)
  have xY : BxA Y (w.heap.size) 38 #[.int .i64 F, .int .i64 T, .int .i64 V, .int .i64 P, .int .i64 C] := by rw [hY]; exact (BxA.set (BxA.set (BxA.set (BxA.set (BxA.set XB 0 (.int .i64 F)) 1 (.int .i64 T)) 2 (.int .i64 V)) 3 (.int .i64 P)) 4 (.int .i64 C))
  have y0 : Y.cell? ⟨w.heap.size, 0, none⟩ = some (.int .i64 F) := BxA.cell xY 0 _ rfl
  have y1 : Y.cell? ⟨w.heap.size, 1, none⟩ = some (.int .i64 T) := BxA.cell xY 1 _ rfl
  have y2 : Y.cell? ⟨w.heap.size, 2, none⟩ = some (.int .i64 V) := BxA.cell xY 2 _ rfl
  have y3 : Y.cell? ⟨w.heap.size, 3, none⟩ = some (.int .i64 P) := BxA.cell xY 3 _ rfl
  have y4 : Y.cell? ⟨w.heap.size, 4, none⟩ = some (.int .i64 C) := BxA.cell xY 4 _ rfl
  have HY : Hid (Y = _) := hY
  have GY : Hid (w4.grownBy Y (some (w.heap.size))) := gY
  have XY : Hid _ := xY
  clear hY gY xY
  clear k3 iC G4 iF iT G1 xs xb xs4 XB H1
  go_wp2_with fail
  rw [← HY.out]
  refine bodyPost_ret (v := .agg #[.int .i64 F, .int .i64 T, .int .i64 V, .int .i64 P, .int .i64 C]) (by simp [results, Try.results64, go_sem, y0, y1, y2, y3, y4]) rfl ?_
  obtain ⟨iF, iT, G1⟩ := H1'.out
  have bY : Below (R + 1) w4 Y := grown_above GY.out hRw (BxA.lt XBH.out)
  have A2 := GK.comp hple (fwd_span l) (fwd_u l) G1 H2.out.2
  have A3 := GK.comp hple ((fwd_span l).comp (fwd_u l)) (fwd_u l) A2 H3.out.2
  have A4 := GK.comp hple (((fwd_span l).comp (fwd_u l)).comp (fwd_u l)) (fwd_u l) A3 H4.out.2
  refine ⟨⟨F, T, V, P, C⟩, rfl, ⟨iF, iT, H2.out.1, H3.out.1, H4.out.1⟩, ?_⟩
  exact ⟨A4.ps.keep bY, fill_grown A4.g GY.out (Nat.le_refl _), fun h0 h2 => by have e := A4.b h0 h2; simp only [List.append_assoc] at e; exact e⟩
end Go.Proofs.Ytpdlioidiobbbaa
