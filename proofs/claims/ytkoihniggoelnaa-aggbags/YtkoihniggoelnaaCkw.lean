/- The walk of AggChecks, given awake's contract. -/
import Derived.Test.YtkoihniggoelnaaRMay2
namespace Go.Proofs.Ytkoihniggoelnaa
open Go.RowKit Go.Sort

def AwakeC : Prop := ∀ w : World, Calls Try.prog 10 #[] w fun e w' => e = .returned (.bool true) ∧ Below w.heap.size w w'
set_option maxHeartbeats 8000000 in
theorem checks_walk (kA0 : AwakeC) (w : World) (D M : Int) (v : Value) (l : List (Int × Int)) (h : RdsK 2 w v l.length (av l)) (k c : Int) (p : Pt) (hp : p.Ok w) (hn0 : 0 ≤ p.n) :
    Calls Try.prog 3 #[.agg #[.int .i64 D, .int .i64 M], v, .agg #[.int .i64 k, .int .i64 c], .agg #[.int .u64 p.n, .int .i64 p.v, p.tv]] w fun e w' => e = .returned (.bool true) ∧ Below w.heap.size w w' := by
  obtain ⟨W, hW⟩ : ∃ W, W = ((w.alloc (.cells #[.int .i64 D, .int .i64 M] 23)).alloc (.cells #[.int .i64 k, .int .i64 c] 26)).alloc (.cells #[.int .u64 p.n, .int .i64 p.v, p.tv] 30) := ⟨_, rfl⟩
  have gW : Grows w W := by rw [hW]; exact ((Grows.alloc _ _).trans (Grows.alloc _ _)).trans (Grows.alloc _ _)
  have hp0 : Box3 W (w.heap.size + 1 + 1) (.int .u64 p.n) (.int .i64 p.v) p.tv := by rw [hW]; exact Box3.new _ _ _ _ _ _ (by simp)
  have ha0 : W.cell? ⟨w.heap.size + 1, 0, none⟩ = some (.int .i64 k) ∧ W.cell? ⟨w.heap.size + 1, 1, none⟩ = some (.int .i64 c) := by
    rw [hW]
    exact ⟨cell_up (Grows.alloc _ _).below (al_new _ _ _ (by simp) rfl), cell_up (Grows.alloc _ _).below (al_new _ _ _ (by simp) rfl)⟩
  have hs0 : W.cell? ⟨w.heap.size, 0, none⟩ = some (.int .i64 D) ∧ W.cell? ⟨w.heap.size, 1, none⟩ = some (.int .i64 M) := by
    rw [hW]
    exact ⟨cell_up ((Grows.alloc _ _).trans (Grows.alloc _ _)).below (al_new _ _ _ rfl rfl), cell_up ((Grows.alloc _ _).trans (Grows.alloc _ _)).below (al_new _ _ _ rfl rfl)⟩
  have kA := kA0 W
  have okp := hp.up gW.below
  have rl := h.below gW.below
  obtain ⟨a1, n1, c1, e1⟩ := hp.rt.sl
  obtain ⟨al, nl, cl, e2⟩ : ∃ ao n cap, v = .slice ao n cap := by obtain ⟨ao, cap, rfl, _⟩ := h; exact ⟨_, _, _, rfl⟩
  subst e2
  have hsame := rmay_same D M k c p.p0 hn0
  rw [e1] at hp0 hW ⊢
  have HX : Hid _ := And.intro hp0 (And.intro ha0 hs0)
  have HOk : Hid _ := And.intro okp rl
  have HE : Hid _ := And.intro e1 hsame
  have HGW : Hid (Grows w W) := gW
  have HW : Hid _ := hW
  have mixed : Try.prog.follows .mixedOrders = true := by kernel_rfl
  rw [hW] at kA
  clear hW hp gW hp0 ha0 hs0 okp rl e1 hsame h hn0 kA0
  go_enter Try.func3, Try.ntmps3
  go_wp2_with fail
  refine kA.mono ?_
  rintro e U ⟨rfl, bU⟩
  rw [← HW.out] at bU
  obtain ⟨hp0, ha0, hs0⟩ := HX.out
  obtain ⟨okp, rl⟩ := HOk.out
  obtain ⟨e1, hsame⟩ := HE.out
  have hpU := hp0.up bU
  have z0 := fun nq os => cell_gr (cell_up bU hs0.1) nq os
  have z1 := fun nq os => cell_gr (cell_up bU hs0.2) nq os
  have z2 := fun nq os => cell_gr (cell_up bU ha0.1) nq os
  have z3 := fun nq os => cell_gr (cell_up bU ha0.2) nq os
  have z4 := fun nq os => cell_gr hpU.c0 nq os
  have z5 := fun nq os => cell_gr hpU.c1 nq os
  have z6 := fun nq os => cell_gr hpU.c2 nq os
  have kCk : ∀ nq os, Calls Try.prog 11 #[.agg #[.int .i64 D, .int .i64 M], .slice al nl cl] (grow (U.drewN nq) os) fun e w' => e = .returned (.int .i64 (errB (decide (l.length ≤ 16) && fitsL D M l))) ∧ ∃ q os', w' = grow ((grow (U.drewN nq) os).drewN q) os' := fun nq os => check_any _ D M _ l ((rl.below bU).below (Grows.below ⟨nq, os, rfl⟩))
  have kRc : ∀ nq os, Calls Try.prog 12 #[.agg #[.int .i64 D, .int .i64 M], .slice al nl cl] (grow (U.drewN nq) os) fun e w' => e = .returned (.int .i64 (errB (decide (l.length ≤ 16) && fitsL D M l))) ∧ ∃ q os', w' = grow ((grow (U.drewN nq) os).drewN q) os' := fun nq os => refcheck_any _ D M _ l ((rl.below bU).below (Grows.below ⟨nq, os, rfl⟩))
  have kMy : ∀ nq os, Calls Try.prog 13 #[.agg #[.int .i64 D, .int .i64 M], .agg #[.int .i64 k, .int .i64 c], .agg #[.int .u64 p.n, .int .i64 p.v, .slice a1 n1 c1]] (grow (U.drewN nq) os) fun e w' => e = .returned (.bool (mayP D M k c p.p0)) ∧ ∃ q os', w' = grow ((grow (U.drewN nq) os).drewN q) os' := fun nq os => by
    have := may_any (grow (U.drewN nq) os) D M k c p ((okp.up bU).up (Grows.below ⟨nq, os, rfl⟩))
    rw [e1] at this
    exact this
  have kRm : ∀ nq os, Calls Try.prog 14 #[.agg #[.int .i64 D, .int .i64 M], .agg #[.int .i64 k, .int .i64 c], .agg #[.int .u64 p.n, .int .i64 p.v, .slice a1 n1 c1]] (grow (U.drewN nq) os) fun e w' => e = .returned (.bool (mayP D M k c p.p0)) ∧ ∃ q os', w' = grow ((grow (U.drewN nq) os).drewN q) os' := fun nq os => by
    have := refmay_any (grow (U.drewN nq) os) D M k c p ((okp.up bU).up (Grows.below ⟨nq, os, rfl⟩))
    rw [e1, hsame] at this
    exact this
  generalize errB (decide (l.length ≤ 16) && fitsL D M l) = E at *
  generalize mayP D M k c p.p0 = Y0 at *
  have HBU : Hid (Below w.heap.size w U) := HGW.out.below.trans (bU.mono HGW.out.below.size)
  clear hp0 ha0 hs0 okp rl e1 hsame hpU bU kA HX HOk HE
  go_wp2_with fail
  refine wp_region_quiet_grown (by assumption) (by kernel_rfl) ?_
  repeat (go_big_quiet_step (first | (go_at_call 11; with_reducible refine Calls.grown_of (kCk _ _)) | (go_at_call 12; with_reducible refine Calls.grown_of (kRc _ _)) | (go_at_call 13; with_reducible refine Calls.grown_of (kMy _ _)) | (go_at_call 14; with_reducible refine Calls.grown_of (kRm _ _))))
  refine wpQuiet_nil ?_
  intro Y hw'
  obtain ⟨⟨nq, osq⟩, hw''⟩ := hw'
  have HBY : Hid (Below w.heap.size w Y) := HBU.out.trans ((Grows.below ⟨nq, osq, hw''⟩).mono HBU.out.size)
  clear hw'' kCk kRc kMy kRm
  go_wp2_with fail
  go_ret
  exact ⟨by simp, HBY.out⟩
end Go.Proofs.Ytkoihniggoelnaa
