/- Messages without lists are copied. -/
import Derived.Test.YtnkllgpibmofiaaGro
import Derived.Deep.MidRow
import Derived.Laws.Rows
import Derived.Laws.Tables
namespace Go.Proofs.Ytnkllgpibmofiaa
open Go.RowKit Go.Maps Go.Sort
set_option linter.unusedVariables false

theorem bcell {W w1 : World} (hb : Below W.heap.size W w1) : (∀ b o, b < W.heap.size → w1.cell? ⟨b, o, none⟩ = W.cell? ⟨b, o, none⟩) ∧ (∀ b o, b < W.heap.size → w1.frozen? ⟨b, o, none⟩ = W.frozen? ⟨b, o, none⟩) :=
  ⟨fun b o h => hb.cell (p := ⟨b, o, none⟩) h, fun b o h => hb.frozen (p := ⟨b, o, none⟩) h⟩
abbrev nl : Value := .slice none 0 0
theorem listseg_nil (w : World) : Calls Try.prog 49 #[nl] w fun e w' => e = .returned nl ∧ w' = w := by
  go_enter Try.func49, Try.ntmps49
  go_wp2_with fail
  go_ret
  exact ⟨rfl, rfl⟩
theorem liststr_nil (w : World) : Calls Try.prog 65 #[nl] w fun e w' => e = .returned nl ∧ w' = w := by
  go_enter Try.func65, Try.ntmps65
  go_wp2_with fail
  go_ret
  exact ⟨rfl, rfl⟩
theorem listi64_nil (w : World) : Calls Try.prog 66 #[nl] w fun e w' => e = .returned nl ∧ w' = w := by
  go_enter Try.func66, Try.ntmps66
  go_wp2_with fail
  go_ret
  exact ⟨rfl, rfl⟩
theorem listagg_nil (w : World) : Calls Try.prog 70 #[nl] w fun e w' => e = .returned nl ∧ w' = w := by
  go_enter Try.func70, Try.ntmps70
  go_wp2_with fail
  go_ret
  exact ⟨rfl, rfl⟩
theorem eachgrp_nil (f : Value) (w : World) : Calls Try.prog 50 #[nl, f] w fun e w' => e = .returned nl ∧ w' = w := by
  go_enter Try.func50, Try.ntmps50
  go_wp2_with fail
  go_loop [5, 10] (fun v i => v = nl ∧ i = .int .i64 0) (fun _ _ => 0)
  case atStart => exact ⟨rfl, rfl⟩
  case round =>
    obtain ⟨rfl, rfl⟩ := hrel
    go_wp2_with fail
    go_ret
    exact ⟨rfl, rfl⟩
theorem eachset_nil (f : Value) (w : World) : Calls Try.prog 68 #[nl, f] w fun e w' => e = .returned nl ∧ w' = w := by
  go_enter Try.func68, Try.ntmps68
  go_wp2_with fail
  go_loop [5, 10] (fun v i => v = nl ∧ i = .int .i64 0) (fun _ _ => 0)
  case atStart => exact ⟨rfl, rfl⟩
  case round =>
    obtain ⟨rfl, rfl⟩ := hrel
    go_wp2_with fail
    go_ret
    exact ⟨rfl, rfl⟩
theorem eachfil_nil (f : Value) (w : World) : Calls Try.prog 89 #[nl, f] w fun e w' => e = .returned nl ∧ w' = w := by
  go_enter Try.func89, Try.ntmps89
  go_wp2_with fail
  go_loop [5, 10] (fun v i => v = nl ∧ i = .int .i64 0) (fun _ _ => 0)
  case atStart => exact ⟨rfl, rfl⟩
  case round =>
    obtain ⟨rfl, rfl⟩ := hrel
    go_wp2_with fail
    go_ret
    exact ⟨rfl, rfl⟩
set_option maxHeartbeats 1000000 in
theorem fact_plain (t : Int) (w : World) : Calls Try.prog 47 #[.agg #[.int .i64 t, nl, nl]] w fun e w' => e = .returned (.agg #[.int .i64 t, nl, nl]) ∧ Grows w w' := by
  go_enter Try.func47, Try.ntmps47
  go_wp2_with (first | (go_at_call 65; refine (liststr_nil _).mono ?_; rintro e w1 ⟨rfl, hw1⟩; have hw1 := hw1.symm; subst hw1) | (go_at_call 66; refine (listi64_nil _).mono ?_; rintro e w1 ⟨rfl, hw1⟩; have hw1 := hw1.symm; subst hw1))
  refine bodyPost_ret (by simp [results, Try.results47, go_sem]; try rfl) rfl ⟨rfl, ?_⟩
  exact (Grows.alloc w _).trans (Grows.alloc _ _)
set_option maxHeartbeats 1000000 in
theorem filter_plain (k d lo hi : Int) (w : World) : Calls Try.prog 67 #[.agg #[.int .i64 k, .int .i64 d, nl, .int .i64 lo, .int .i64 hi, nl]] w fun e w' => e = .returned (.agg #[.int .i64 k, .int .i64 d, nl, .int .i64 lo, .int .i64 hi, nl]) ∧ Grows w w' := by
  go_enter Try.func67, Try.ntmps67
  go_wp2_with (first | (go_at_call 65; refine (liststr_nil _).mono ?_; rintro e w1 ⟨rfl, hw1⟩; have hw1 := hw1.symm; subst hw1) | (go_at_call 89; refine (eachfil_nil _ _).mono ?_; rintro e w1 ⟨rfl, hw1⟩; have hw1 := hw1.symm; subst hw1))
  refine bodyPost_ret (by simp [results, Try.results67, go_sem]; try rfl) rfl ⟨rfl, ?_⟩
  exact (Grows.alloc w _).trans (Grows.alloc _ _)
end Go.Proofs.Ytnkllgpibmofiaa
