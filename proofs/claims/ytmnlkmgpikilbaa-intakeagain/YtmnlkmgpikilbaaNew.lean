/- New, at. -/
import Derived.Test.YtmnlkmgpikilbaaBhd
namespace Go.Proofs.Ytmnlkmgpikilbaa
open Go.RowKit Go.Maps Go.Sort
set_option linter.unusedVariables false

set_option maxRecDepth 20000 in
theorem at_any (t : Int) (w : World) : Calls Try.prog 19 #[.int .i64 t] w fun e w' => e = .returned (.agg (fc t)) ∧ Grows w w' := by
  have z0 : (w.alloc (.cells #[.int .i64 0, .slice none 0 0, .slice none 0 0] 38)).cell? ⟨w.heap.size, 0, none⟩ = some (.int .i64 0) := (BxA.new _ _ _).cell 0 _ rfl
  have z1 : (w.alloc (.cells #[.int .i64 0, .slice none 0 0, .slice none 0 0] 38)).cell? ⟨w.heap.size, 1, none⟩ = some (.slice none 0 0) := (BxA.new _ _ _).cell 1 _ rfl
  have z2 : (w.alloc (.cells #[.int .i64 0, .slice none 0 0, .slice none 0 0] 38)).cell? ⟨w.heap.size, 2, none⟩ = some (.slice none 0 0) := (BxA.new _ _ _).cell 2 _ rfl
  have HB : Hid (BxA (w.alloc (.cells #[.int .i64 0, .slice none 0 0, .slice none 0 0] 38)) w.heap.size 38 #[.int .i64 0, .slice none 0 0, .slice none 0 0]) := hide (BxA.new _ _ _)
  have HG : Hid (Grows w (w.alloc (.cells #[.int .i64 0, .slice none 0 0, .slice none 0 0] 38))) := hide (Grows.alloc _ _)
  obtain ⟨W, hW⟩ : ∃ W, W = w.alloc (.cells #[.int .i64 0, .slice none 0 0, .slice none 0 0] 38) := ⟨_, rfl⟩
  rw [← hW] at z0 z1 z2 HB HG
  have f0 := HB.out.free 0
  have f1 := HB.out.free 1
  have f2 := HB.out.free 2
  go_enter Try.func19, Try.ntmps19
  go_upto_region 1 with fail
  rw [← hW]
  clear hW
  go_wp2_with fail
  have hX : BxA (((W.setCell ⟨w.heap.size, 0, none⟩ (.int .i64 t)).setCell ⟨w.heap.size, 1, none⟩ nl).setCell ⟨w.heap.size, 2, none⟩ nl) w.heap.size 38 (fc t) := ((HB.out.set 0 _).set 1 _).set 2 _
  exact bodyPost_ret (results_cell_row rfl _ _ w.heap.size 38 (fc t) (0, 0) _ rfl hX Try.underlying38 rfl Try.info_fct) rfl ⟨rfl, (((HG.out.set _ (Nat.le_refl _)).set _ (Nat.le_refl _)).set _ (Nat.le_refl _))⟩
set_option maxRecDepth 20000 in
set_option maxHeartbeats 2000000 in
theorem new_any (w : World) (l : Int) (hl : 1 ≤ l ∧ l ≤ 1099511627776) (m : Nat) (hm : m ≤ 100000) :
    Calls Try.prog 10 #[.agg #[.int .i64 0, .int .i64 0], .int .i64 l, .int .u64 ((m + 1 : Nat) : Int)] w fun e w' => ∃ x, e = .returned (.tuple #[.pointer (some ⟨x, 0, none⟩), .int .i64 0]) ∧ w.heap.size ≤ x ∧ Below w.heap.size w w' ∧ InZ w' x (fun i => i = x) l nl [] { num := 1, fr := m, up := m, v := nl, ts := [] } := by
  obtain ⟨W, hW⟩ : ∃ W, W = w.alloc (.cells #[.int .i64 0, .int .i64 0] 23) := ⟨_, rfl⟩
  have hb : BxA W w.heap.size 23 #[.int .i64 0, .int .i64 0] := by rw [hW]; exact BxA.new _ _ _
  have hg : Grows w W := by rw [hW]; exact Grows.alloc _ _
  have c0 : W.cell? ⟨w.heap.size, 0, none⟩ = some (.int .i64 0) := hb.cell 0 _ rfl
  have c1 : W.cell? ⟨w.heap.size, 1, none⟩ = some (.int .i64 0) := hb.cell 1 _ rfl
  have kF := fine_zero W
  obtain ⟨n, hn⟩ : ∃ n, n = m + 1 := ⟨_, rfl⟩
  have hl1 : ¬ l < 1 := by omega
  have hl2 : ¬ 1099511627776 < l := by omega
  have hn1 : ¬ (n : Int) < 1 := by omega
  have hnm : (n : Int) - 1 = (m : Int) := by omega
  have hnb : (n : Int) ≤ 1000000 := by omega
  have hmz : IntKind.u64.wrap (m : Int) = (m : Int) := by rw [IntKind.wrap_u64]; omega
  rw [← hn]
  have HB := hide hb
  have HG := hide hg
  clear hb hg hn
  go_enter Try.func10, Try.ntmps10
  go_upto_region 1 with fail
  rw [← hW]
  clear hW
  go_upto_region 6 with (
    go_at_call 25
    refine kF.mono ?_
    rintro e w1 ⟨he1, hg1⟩
    subst he1
    have HG1 := hide (HG.out.trans hg1)
    have hb1 := bx_up HB.out hg1.below
    have d0 : w1.cell? ⟨w.heap.size, 0, none⟩ = some (.int .i64 0) := hb1.cell 0 _ rfl
    have d1 : w1.cell? ⟨w.heap.size, 1, none⟩ = some (.int .i64 0) := hb1.cell 1 _ rfl
    clear hg1 hb1 c0 c1 kF)
  have kFo : ∀ W', Calls Try.prog 26 #[.agg #[.int .i64 0, .int .u64 0, .int .u64 (m : Int), .slice none 0 0]] W' fun e w' => e = .returned (.agg #[.int .i64 1, .int .u64 (m : Int), .int .u64 (m : Int), nl, nl]) ∧ Grows W' w' := fun W' => following_any W' 0 (by omega) 0 m (by omega)
  go_region_with (
    go_at_call 26
    refine (kFo w1.drew).mono ?_
    rintro e w2 ⟨he2, hg2⟩
    subst he2
    have HG2 := hide (HG1.out.trans ((Grows.drew w1).trans hg2))
    have d0' := cell_upB ((Grows.drew w1).trans hg2).below d0
    have d1' := cell_upB ((Grows.drew w1).trans hg2).below d1
    clear hg2)
  all_goals (
    go_wp2_with fail
    have hgz : Grows w (w2.alloc (.cells #[.int .i64 0, .int .i64 0, .int .i64 l, .slice none 0 0, .int .i64 1, .int .u64 (m : Int), .int .u64 (m : Int), nl, nl] 84)) := HG2.out.trans (Grows.alloc _ _)
    exact bodyPost_ret (results_tmp2 rfl _ _ _) rfl ⟨w2.heap.size, rfl, HG2.out.below.size, hgz.below, ⟨BxA.new w2 _ _, rfl, ⟨rfl, .inl ⟨rfl, rfl⟩⟩, (fun r hr => by cases hr), (fun p hp => by cases hp), ⟨⟨rfl, .inl ⟨rfl, rfl⟩⟩, (fun r hr => by cases hr), rfl, fun t ht => by cases ht⟩, (fun p hp => by cases hp), fun i hi => by subst hi; simp⟩⟩)
end Go.Proofs.Ytmnlkmgpikilbaa
