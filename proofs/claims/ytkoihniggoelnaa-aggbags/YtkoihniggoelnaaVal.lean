/- The contract of Value. -/
import Derived.Test.YtkoihniggoelnaaAdd
namespace Go.Proofs.Ytkoihniggoelnaa
open Go.RowKit Go.Sort

def valP (k : Int) (p : P0) : Int := if k = 1 then wrap64 p.1 else if k = 5 then (p.2.2.length : Int) else p.2.1
def ValC (g : Nat) (k : Int) : Prop := ∀ (w : World) (p : Pt), p.Ok w → Calls Try.prog g #[.agg #[.int .u64 p.n, .int .i64 p.v, p.tv]] w fun e w' => e = .returned (.int .i64 (valP k p.p0)) ∧ Grows w w'
theorem way_value (k c : Int) : ∃ g x0 x1 x2 x4 : Nat, (g = 38 ∨ g = 41 ∨ g = 52) ∧ WayC k c x0 x1 x2 g x4 ∧ ValC g k := by
  have hnum : (k ≠ 1 ∧ k ≠ 5) → ValC 38 k := fun hk w p hp => by
    have : valP k p.p0 = p.v := by unfold valP; rw [if_neg hk.1, if_neg hk.2]; rfl
    rw [this]; exact number_any w p hp
  by_cases h1 : k = 1
  · subst h1
    exact ⟨_, _, _, _, _, .inr (.inl rfl), fun w => wayOf_1 w c, fun w p hp => count_any w p hp⟩
  · by_cases h2 : k = 2
    · subst h2
      exact ⟨_, _, _, _, _, .inl rfl, fun w => wayOf_2 w c, hnum (by decide)⟩
    · by_cases h3 : k = 3
      · subst h3
        exact ⟨_, _, _, _, _, .inl rfl, fun w => wayOf_3 w c, hnum (by decide)⟩
      · by_cases h4 : k = 4
        · subst h4
          exact ⟨_, _, _, _, _, .inl rfl, fun w => wayOf_4 w c, hnum (by decide)⟩
        · by_cases h5 : k = 5
          · subst h5
            exact ⟨_, _, _, _, _, .inr (.inr rfl), fun w => wayOf_5 w c, fun w p hp => howMany_any w p hp⟩
          · by_cases h0 : k = 0
            · subst h0
              exact ⟨_, _, _, _, _, .inl rfl, fun w => wayOf_0 w c, hnum (by decide)⟩
            · exact ⟨_, _, _, _, _, .inl rfl, fun w => wayOf_no w k (by omega) c, hnum ⟨h1, h5⟩⟩
set_option maxHeartbeats 4000000 in
theorem value_any (w : World) (k c : Int) (p : Pt) (hp : p.Ok w) :
    Calls Try.prog 19 #[.agg #[.int .i64 k, .int .i64 c], .agg #[.int .u64 p.n, .int .i64 p.v, p.tv]] w fun e w' => e = .returned (.int .i64 (valP k p.p0)) ∧ Grows w w' := by
  obtain ⟨W, hW⟩ : ∃ W, W = (w.alloc (.cells #[.int .i64 k, .int .i64 c] 26)).alloc (.cells #[.int .u64 p.n, .int .i64 p.v, p.tv] 30) := ⟨_, rfl⟩
  have gW : Grows w W := by rw [hW]; exact (Grows.alloc _ _).trans (Grows.alloc _ _)
  have hp0 : Box3 W (w.heap.size + 1) (.int .u64 p.n) (.int .i64 p.v) p.tv := by rw [hW]; exact Box3.new _ _ _ _ _ _ (by simp)
  have ha0 : W.cell? ⟨w.heap.size, 0, none⟩ = some (.int .i64 k) ∧ W.cell? ⟨w.heap.size, 1, none⟩ = some (.int .i64 c) := by
    rw [hW]
    exact ⟨cell_up (Grows.alloc _ _).below (al_new _ _ _ rfl rfl), cell_up (Grows.alloc _ _).below (al_new _ _ _ rfl rfl)⟩
  have okp := hp.up gW.below
  obtain ⟨a1, n1, c1, e1⟩ := hp.rt.sl
  rw [e1] at hp0
  have y0 := fun nq os => cell_gr ha0.1 nq os
  have y1 := fun nq os => cell_gr ha0.2 nq os
  have y2 := fun nq os => cell_gr hp0.c0 nq os
  have y3 := fun nq os => cell_gr hp0.c1 nq os
  have y4 := fun nq os => cell_gr hp0.c2 nq os
  obtain ⟨g, x0, x1, x2, x4, hfn, kW0, kF0⟩ := way_value k c
  have kW : ∀ nq os, Calls Try.prog 25 #[.agg #[.int .i64 k, .int .i64 c]] (grow (W.drewN nq) os) fun e w' => e = .returned (.agg #[fv x0, fv x1, fv x2, fv g, fv x4]) ∧ ∃ q os', w' = grow ((grow (W.drewN nq) os).drewN q) os' := fun nq os => kW0 _
  have kF : ∀ nq os, Calls Try.prog g #[.agg #[.int .u64 p.n, .int .i64 p.v, .slice a1 n1 c1]] (grow (W.drewN nq) os) fun e w' => e = .returned (.int .i64 (valP k p.p0)) ∧ ∃ q os', w' = grow ((grow (W.drewN nq) os).drewN q) os' := fun nq os => by
    have := kF0 (grow (W.drewN nq) os) p (okp.up (Grows.below ⟨nq, os, rfl⟩))
    rw [e1] at this
    exact this
  simp only [fv] at kW
  have hfd : ∀ w : World, (Instr.field 61 (.agg #[.func (.func x0) #[] #[], .func (.func x1) #[] #[], .func (.func x2) #[] #[], .func (.func g) #[] #[], .func (.func x4) #[] #[]]) 3).run Try.prog w = .ok (.func (.func g) #[] #[]) w := fun _ => by kernel_rfl
  have mixed : Try.prog.follows .mixedOrders = true := by kernel_rfl
  have HGW : Hid (Grows w W) := gW
  rw [e1] at hW ⊢
  have HW : Hid _ := hW
  generalize valP k p.p0 = R at *
  clear hW hp gW hp0 ha0 okp e1 kW0 kF0
  go_enter Try.func19, Try.ntmps19
  rcases hfn with rfl | rfl | rfl
  · go_wp2_with fail
    rw [← HW.out]
    refine wp_region_quiet_grown (by assumption) (by kernel_rfl) ?_
    repeat (first | go_big_quiet_step (first | (go_at_call 25; with_reducible refine Calls.grown_of (kW _ _)) | (go_at_call 38; with_reducible refine Calls.grown_of (kF _ _))) | quiet_step (fail))
    refine wpQuiet_nil ?_
    intro Y hw'
    obtain ⟨⟨nq, osq⟩, hw''⟩ := hw'
    have HY : Hid (Grows w Y) := HGW.out.trans ⟨nq, osq, hw''⟩
    clear hw''
    go_wp2_with fail
    go_ret
    exact ⟨rfl, HY.out⟩
  · go_wp2_with fail
    rw [← HW.out]
    refine wp_region_quiet_grown (by assumption) (by kernel_rfl) ?_
    repeat (first | go_big_quiet_step (first | (go_at_call 25; with_reducible refine Calls.grown_of (kW _ _)) | (go_at_call 41; with_reducible refine Calls.grown_of (kF _ _))) | quiet_step (fail))
    refine wpQuiet_nil ?_
    intro Y hw'
    obtain ⟨⟨nq, osq⟩, hw''⟩ := hw'
    have HY : Hid (Grows w Y) := HGW.out.trans ⟨nq, osq, hw''⟩
    clear hw''
    go_wp2_with fail
    go_ret
    exact ⟨rfl, HY.out⟩
  · go_wp2_with fail
    rw [← HW.out]
    refine wp_region_quiet_grown (by assumption) (by kernel_rfl) ?_
    repeat (first | go_big_quiet_step (first | (go_at_call 25; with_reducible refine Calls.grown_of (kW _ _)) | (go_at_call 52; with_reducible refine Calls.grown_of (kF _ _))) | quiet_step (fail))
    refine wpQuiet_nil ?_
    intro Y hw'
    obtain ⟨⟨nq, osq⟩, hw''⟩ := hw'
    have HY : Hid (Grows w Y) := HGW.out.trans ⟨nq, osq, hw''⟩
    clear hw''
    go_wp2_with fail
    go_ret
    exact ⟨rfl, HY.out⟩
end Go.Proofs.Ytkoihniggoelnaa
