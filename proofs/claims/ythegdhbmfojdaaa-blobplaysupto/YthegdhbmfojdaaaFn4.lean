/- Contracts: a file's own functions. -/
import Derived.Test.YthegdhbmfojdaaaFn3
import Derived.BigQuiet
import Derived.Deep.DeepCutAuto
import Derived.Deep.QuietTactic
import Derived.WalkSmall
import Derived.RegionTactic
import Derived.Orders
import Derived.Deep.RegionHeld
namespace Go.Proofs.Ythegdhbmfojdaaa
open Go.RowKit Go.Maps

theorem fsync_any (w : World) (g : Nat) (ao : Option Addr) (n c : Nat) (sy : Int) (hb : BxA w g 89 #[.slice ao n c, .int .i64 sy]) :
    Calls Try.prog 90 #[.pointer (some ⟨g, 0, none⟩)] w fun e w' => e = .returned (.tuple #[]) ∧ w' = w.setCell ⟨g, 1, none⟩ (.int .i64 (n : Int)) := by
  have c0 := hb.cell 0 _ rfl
  have c1 := hb.cell 1 _ rfl
  have f1 := hb.free 1
  clear hb
  go_enter Try.func90, Try.ntmps90
  go_wp2_with fail
  go_end0
  exact ⟨rfl, rfl⟩
set_option maxRecDepth 100000 in
set_option maxHeartbeats 800000 in
theorem fadd_any (w : World) (g : Nat) (v u : Value) (sy : Int) (l b : Str) (hb : BxA w g 89 #[v, .int .i64 sy]) (ho : Owns w 0 v l) (hr : Reads w u b) (hl : l.length + b.length ≤ 140737488355328) (hg : v.ownBlock ≠ some g) :
    Calls Try.prog 56 #[.pointer (some ⟨g, 0, none⟩), u] w fun e w' => e = .returned (.tuple #[]) ∧ ∃ v' w1, w' = w1.setCell ⟨g, 0, none⟩ v' ∧ Owns w1 0 v' (l ++ b) ∧ w.grownBy w1 v.ownBlock ∧ (v'.ownBlock = v.ownBlock ∨ ∃ r, v'.ownBlock = some r ∧ w.heap.size ≤ r) := by
  obtain ⟨i0, hi0, hz0, hz1, hz2⟩ := info_parts Try.info5
  have c0 := hb.cell 0 _ rfl
  have HB : Hid _ := hb
  have HO : Hid (w.ownsRow 0 5 1 v l.length (bv l)) := ho
  have HR : Hid (RdsK 1 w u b.length (bv b)) := hr.k
  have HX : Hid _ := hg
  obtain ⟨va, vc, rfl⟩ := own_sl HO.out
  obtain ⟨ua, uc, rfl⟩ : ∃ a c, u = .slice a b.length c := by obtain ⟨a, c, rfl, _⟩ := hr; exact ⟨_, _, rfl⟩
  clear hb ho hr hg
  go_enter Try.func56, Try.ntmps56
  go_wp2_with (first | (at_builtin; refine wpList_appF rfl _ _ 33 rfl 0 5 i0 (.int .u8 0) 1 1 Try.underlying33 hi0 hz0 hz1 hz2 rfl (by decide) (.slice va l.length vc) l.length (bv l) rfl HO.out (.slice ua b.length uc) b.length (bv b) rfl HR.out (bv_one b) (by unfold maxLen; omega) (by omega) (Nat.zero_le _) ?_; intro v1 w1 o1 g1 fr1; obtain ⟨xa, xc, rfl⟩ := own_sl o1; have hb1 : BxA w1 g 89 #[.slice va l.length vc, .int .i64 sy] := (by have hq := HB.out; unfold BxA at hq ⊢; rw [g1.block g (Array.getElem?_eq_some_iff.1 hq).1 (fun e => HX.out e.symm)]; exact hq); have c0' := hb1.cell 0 _ rfl; have f0' := hb1.free 0; have H1 : Hid _ := And.intro o1 (And.intro g1 fr1); clear o1 g1 fr1 hb1))
  go_wp2_with fail
  go_end0
  obtain ⟨o1, g1, fr1⟩ := H1.out
  exact ⟨rfl, _, w1, rfl, app_owns o1, g1, fr1⟩
set_option maxHeartbeats 1600000 in
theorem fcut_any (w : World) (g : Nat) (ao : Option Addr) (n c sy : Nat) (part : Int) (hb : BxA w g 89 #[.slice ao n c, .int .i64 (sy : Int)]) (hs : sy ≤ n) (hn : n ≤ c) (hc : c ≤ maxLen) :
    Calls Try.prog 74 #[.pointer (some ⟨g, 0, none⟩), .int .i64 part] w fun e w' => e = .returned (.tuple #[]) ∧ ∃ m, w' = ((w.drewN m).setCell ⟨g, 0, none⟩ (.slice ao (cutK part n sy) c)).setCell ⟨g, 1, none⟩ (.int .i64 (cutK part n sy : Int)) := by
  have c0 := hb.cell 0 _ rfl
  have c1 := hb.cell 1 _ rfl
  have f0 := hb.free 0
  have f1 := hb.free 1
  have hsz : (n : Int) - (sy : Int) = ((n - sy : Nat) : Int) := by omega
  unfold maxLen at hc
  have hw1 : wrap64 ((n - sy : Nat) : Int) = ((n - sy : Nat) : Int) := by rw [← IntWalk.i64_left, IntKind.wrap_i64]; omega
  have hwS : wrap64 (sy : Int) = (sy : Int) := by rw [← IntWalk.i64_left, IntKind.wrap_i64]; omega
  have HW : Hid _ := hb
  clear hb
  by_cases hp : part < 0
  · have hl0 : ¬ ((n - sy : Nat) : Int) < 0 := by omega
    have HK : Hid (cutK part n sy = sy) := by apply hide; unfold cutK; omega
    have hsc : (sy : Int) ≤ (c : Int) := by omega
    go_enter Try.func74, Try.ntmps74
    go_wp2_with fail
    go_quiet (fail)
    go_wp2_with fail
    go_region
    have hb2 : BxA (w.drewN (nq + 1)) g 89 #[.slice ao n c, .int .i64 (sy : Int)] := HW.out
    have kk := fsync_any ((w.drewN (nq + 1)).setCell ⟨g, 0, none⟩ (.slice ao (sy) c)) g ao (sy) c sy (hb2.set 0 _)
    clear hb2
    go_wp2_with fail
    refine kk.mono ?_
    rintro e w2 ⟨rfl, rfl⟩
    go_wp2_with fail
    go_end0
    rw [HK.out]
    exact ⟨rfl, nq + 1, rfl⟩
  · by_cases hq : ((n - sy : Nat) : Int) < part
    · have HK : Hid (cutK part n sy = n) := by apply hide; unfold cutK; omega
      have hwN : wrap64 ((sy : Int) + ((n - sy : Nat) : Int)) = (n : Int) := by rw [← IntWalk.i64_left, IntKind.wrap_i64]; omega
      have hsc : (n : Int) ≤ (c : Int) := by omega
      go_enter Try.func74, Try.ntmps74
      go_wp2_with fail
      go_quiet (fail)
      go_wp2_with fail
      go_region
      have hb2 : BxA (w.drewN (nq + 1)) g 89 #[.slice ao n c, .int .i64 (sy : Int)] := HW.out
      have kk := fsync_any ((w.drewN (nq + 1)).setCell ⟨g, 0, none⟩ (.slice ao (n) c)) g ao (n) c sy (hb2.set 0 _)
      clear hb2
      go_wp2_with fail
      refine kk.mono ?_
      rintro e w2 ⟨rfl, rfl⟩
      go_wp2_with fail
      go_end0
      rw [HK.out]
      exact ⟨rfl, nq + 1, rfl⟩
    · obtain ⟨p, rfl⟩ : ∃ p : Nat, part = (p : Int) := ⟨part.toNat, by omega⟩
      have HK : Hid (cutK (p : Int) n sy = sy + p) := by apply hide; unfold cutK; omega
      have hwN : wrap64 ((sy : Int) + (p : Int)) = (sy : Int) + (p : Int) := by rw [← IntWalk.i64_left, IntKind.wrap_i64]; omega
      have hsc : (sy : Int) + (p : Int) ≤ (c : Int) := by omega
      go_enter Try.func74, Try.ntmps74
      go_wp2_with fail
      go_quiet (fail)
      go_wp2_with fail
      go_region
      have hb2 : BxA (w.drewN (nq + 1)) g 89 #[.slice ao n c, .int .i64 (sy : Int)] := HW.out
      have kk := fsync_any ((w.drewN (nq + 1)).setCell ⟨g, 0, none⟩ (.slice ao (sy + p) c)) g ao (sy + p) c sy (hb2.set 0 _)
      clear hb2
      go_wp2_with fail
      refine kk.mono ?_
      rintro e w2 ⟨rfl, rfl⟩
      go_wp2_with fail
      go_end0
      rw [HK.out]
      exact ⟨rfl, nq + 1, rfl⟩
end Go.Proofs.Ythegdhbmfojdaaa
