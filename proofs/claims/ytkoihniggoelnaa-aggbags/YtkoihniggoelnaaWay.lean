/- The table of ways: contracts of ways, within, wayOf. -/
import Derived.Test.YtkoihniggoelnaaMem
import Derived.Handy
import Derived.Laws.EntriesVeiled
import Derived.Deep.WholeRow
import Derived.BigQuiet
import Derived.Shelf.SlSortCmp.QuietGrown
namespace Go.Proofs.Ytkoihniggoelnaa
open Go.RowKit Go.Sort

theorem cell_gr {w : World} {a : Addr} {v : Value} (h : w.cell? a = some v) (n : Nat) (os : Array Obj) : (grow (w.drewN n) os).cell? a = some v := cell_grown (World.block_lt_of_cell? _ _ h) h n os
theorem cell_up {w w' : World} (h : Below w.heap.size w w') {a : Addr} {v : Value} (hc : w.cell? a = some v) : w'.cell? a = some v := by
  rw [h.cell (World.block_lt_of_cell? _ _ hc)]; exact hc
theorem al_new (w : World) (cs : Array Value) (t : TypeId) {B o : Nat} {v : Value} (hB : B = w.heap.size) (h : cs[o]? = some v) : (w.alloc (.cells cs t)).cell? ⟨B, o, none⟩ = some v := by
  subst hB
  simpa using h
abbrev fv (n : Nat) : Value := .func (.func n) #[] #[]
/-- What aggregators of a kind do. -/
def wayv (k : Int) : Value :=
  if k = 1 then .agg #[fv 40, fv 36, fv 37, fv 41, fv 39]
  else if k = 2 then .agg #[fv 42, fv 43, fv 44, fv 38, fv 45]
  else if k = 3 then .agg #[fv 42, fv 46, fv 47, fv 38, fv 45]
  else if k = 4 then .agg #[fv 42, fv 46, fv 48, fv 38, fv 45]
  else if k = 5 then .agg #[fv 49, fv 50, fv 51, fv 52, fv 53]
  else .agg #[fv 35, fv 36, fv 37, fv 38, fv 39]
theorem within_any (w : World) (a n : Int) :
    Calls Try.prog 32 #[.int .i64 a, .int .i64 n] w fun e w' => e = .returned (.bool (decide (0 ≤ a ∧ a < n))) ∧ w' = w := by
  by_cases h0 : 0 ≤ a
  · have d0 : decide ((0 : Int) ≤ a) = true := decide_eq_true h0
    by_cases h1 : a < n
    · have d1 : decide (a < n) = true := decide_eq_true h1
      rw [decide_eq_true ⟨h0, h1⟩]
      go_enter Try.func32, Try.ntmps32
      go_wp2_with fail
      go_ret
      exact ⟨rfl, rfl⟩
    · have d1 : decide (a < n) = false := decide_eq_false h1
      rw [decide_eq_false fun h => h1 h.2]
      go_enter Try.func32, Try.ntmps32
      go_wp2_with fail
      go_ret
      exact ⟨rfl, rfl⟩
  · have d0 : decide ((0 : Int) ≤ a) = false := decide_eq_false h0
    rw [decide_eq_false fun h => h0 h.1]
    go_enter Try.func32, Try.ntmps32
    go_wp2_with fail
    go_ret
    exact ⟨rfl, rfl⟩
/-- The table, cell by cell. -/
def wl : Array Value := #[.func (.func 35) #[] #[], .func (.func 36) #[] #[], .func (.func 37) #[] #[], .func (.func 38) #[] #[], .func (.func 39) #[] #[], .func (.func 40) #[] #[], .func (.func 36) #[] #[], .func (.func 37) #[] #[], .func (.func 41) #[] #[], .func (.func 39) #[] #[], .func (.func 42) #[] #[], .func (.func 43) #[] #[], .func (.func 44) #[] #[], .func (.func 38) #[] #[], .func (.func 45) #[] #[], .func (.func 42) #[] #[], .func (.func 46) #[] #[], .func (.func 47) #[] #[], .func (.func 38) #[] #[], .func (.func 45) #[] #[], .func (.func 42) #[] #[], .func (.func 46) #[] #[], .func (.func 48) #[] #[], .func (.func 38) #[] #[], .func (.func 45) #[] #[], .func (.func 49) #[] #[], .func (.func 50) #[] #[], .func (.func 51) #[] #[], .func (.func 52) #[] #[], .func (.func 53) #[] #[]]
theorem wl_info : (Try.prog.info? 68).map (·.size) = some wl.size := by kernel_rfl
theorem wl_all : wl.all (·.oneCell') = true := by kernel_rfl
/-- A whole array into the block that was made last, as one step of a list of operations. -/
theorem wpList_store_new {P : Program} {ops : Array Oper} {rest : List Oper} {op : Oper} {a : Act} {w : World} {Q : Exit → Act → World → Prop} (hgd : op.guard = none) (ty : TypeId) (x y : Operand) (ho : op.op = .store ty x y)
    (w0 : World) (c c' : Array Value) (hw : w = w0.alloc (.cells c ty)) (hx : a.eval x = .pointer (some ⟨w0.heap.size, 0, none⟩)) (hy : a.eval y = .agg c')
    (hi : (P.info? ty).map (·.size) = some c'.size) (hc : c.size = c'.size) (h1 : c'.all (·.oneCell') = true)
    (h : wpList P ops Q rest (a.put op.dst undef) (w0.alloc (.cells c' ty))) : wpList P ops Q (op :: rest) a w := by
  subst hw
  refine wpList_plain hgd fun _ hK => ?_
  unfold Oper.wp execOp
  simp only [ho, hx, hy, Instr.storeAt, Instr.sureAddr, Sem.run_bind, Sem.run_pure, Result.andThen_ok, run_storeVar_new w0 ty c c' hi hc h1]
  exact hK _ _ h
set_option maxHeartbeats 4000000 in
theorem ways_any (w : World) : Calls Try.prog 31 #[] w fun e w' => e = .returned (.agg wl) ∧ Grows w w' := by
  go_enter Try.func31, Try.ntmps31
  go_wp2_with (first | (refine wpList_store_new rfl 68 (.tmp 0) (.tmp 7) rfl w #[.nilFunc, .nilFunc, .nilFunc, .nilFunc, .nilFunc, .nilFunc, .nilFunc, .nilFunc, .nilFunc, .nilFunc, .nilFunc, .nilFunc, .nilFunc, .nilFunc, .nilFunc, .nilFunc, .nilFunc, .nilFunc, .nilFunc, .nilFunc, .nilFunc, .nilFunc, .nilFunc, .nilFunc, .nilFunc, .nilFunc, .nilFunc, .nilFunc, .nilFunc, .nilFunc] wl rfl rfl rfl wl_info rfl wl_all ?_))
  refine bodyPost_ret (results_cell_row rfl _ _ w.heap.size 68 wl (0, 0) _ rfl (heap_alloc_new _ _) Try.underlying68 rfl wl_info) rfl ?_
  exact ⟨rfl, Grows.alloc _ _⟩
end Go.Proofs.Ytkoihniggoelnaa
