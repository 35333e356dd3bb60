/- Contracts of package blob: what is thrown, and caught. -/
import Derived.Test.YthegdhbmfojdaaaBl2
import Derived.Defers
import Derived.Recover
import Derived.Laws.Pointers
namespace Go.Proofs.Ythegdhbmfojdaaa
open Go.RowKit Go.Maps Go.Sort
set_option linter.unusedVariables false

/-- What is thrown. -/
def stopV (c : Nat) : Value := .iface 101 (.agg #[.int .i64 (c : Int)])
theorem need_ok (w : World) : Calls Try.prog 43 #[.int .i64 0] w fun e w' => e = .returned (.tuple #[]) ∧ w' = w := by
  go_enter Try.func43, Try.ntmps43
  go_wp2_with fail
  go_end0
  exact ⟨rfl, rfl⟩
theorem need_bad (w : World) (c : Nat) (h : c ≠ 0) : Calls Try.prog 43 #[.int .i64 (c : Int)] w fun e w' => e = .panicked [{ v := stopV c, recovered := false }] ∧ w' = w := by
  have hz : ¬ (c : Int) = 0 := by omega
  go_enter Try.func43, Try.ntmps43
  go_wp2_with fail
  simp [bodyPost, stopV]
theorem is_stop (v : Value) (w : World) : (Instr.typeAssert (.iface 101 v) 20 101 false).run Try.prog w = .ok v w := by kernel_rfl
theorem stop_code (v : Value) (w : World) : (Instr.field 101 (.agg #[v]) 0).run Try.prog w = .ok v w := by kernel_rfl
set_option maxRecDepth 100000 in
theorem codeOf_any (w : World) (c : Nat) : Calls Try.prog 42 #[stopV c] w fun e w' => e = .returned (.int .i64 (c : Int)) ∧ w' = w := by
  have hs := fun v => is_stop v w
  have hf := stop_code (.int .i64 (c : Int)) w
  unfold stopV
  go_enter Try.func42, Try.ntmps42
  go_wp2_with fail
  go_ret
  exact ⟨rfl, rfl⟩
/-- The deferred function, where something was thrown. -/
theorem catch_thrown (p : Addr) (x : Value) (c : Nat) (older : List PanicEntry) (w : World) (hc : w.cell? p = some x) (hz : w.frozen? p = false) :
    CallsD Try.prog 41 #[.pointer (some p)] (.panicking ({ v := stopV c, recovered := false } :: older)) w fun e u' w' =>
      e = .returned (.tuple #[]) ∧ u' = .panicking ({ v := stopV c, recovered := true } :: older) ∧ w' = w.setCell p (.int .i64 (c : Int)) := by
  have kC := codeOf_any w c
  refine callsD_of_wpS Try.func41 rfl fun c₀ cs hu => ?_
  apply wpS_seq
  apply wpS_region
  simp [wpOpsS, go_sem, recoverD, hu, Try.ntmps41, Exit.thenS]
  refine wpS_of_wp ?_
  unfold stopV at kC ⊢
  go_wp2_with fail
  refine kC.mono ?_
  rintro e w1 ⟨rfl, rfl⟩
  go_wp2_with fail
  cases c₀
  simp_all [bodyPostS, results, Try.results41]
/-- And where nothing was. -/
theorem catch_idle (p : Addr) (w : World) :
    CallsD Try.prog 41 #[.pointer (some p)] .returning w fun e u' w' => e = .returned (.tuple #[]) ∧ u' = .returning ∧ w' = w := by
  refine callsD_of_wpS Try.func41 rfl fun c₀ cs hu => ?_
  apply wpS_seq
  apply wpS_region
  simp [wpOpsS, go_sem, recoverD, hu, Try.ntmps41, Exit.thenS]
  refine wpS_of_wp ?_
  go_wp2_with fail
  cases c₀
  simp_all [bodyPostS, results, Try.results41]
end Go.Proofs.Ythegdhbmfojdaaa
