/- Of a message that isn't there: Peek, Lose, Twice; abs. -/
import Derived.Test.YtnkllgpibmofiaaNta
namespace Go.Proofs.Ytnkllgpibmofiaa
open Go.RowKit Go.Maps Go.Sort
set_option linter.unusedVariables false

def ZM : Array Value := (List.toArray ((Value.int .i64 0) :: (Value.int .i64 0) :: (Value.int .i64 0) :: (Value.int .u64 0) :: (Value.int .u64 0) :: (Value.int .u64 0) :: (Value.int .i64 0) :: (Value.int .u64 0) :: (Value.int .i64 0) :: (Value.int .i64 0) :: (Value.slice none 0 0) :: (Value.slice none 0 0) :: (Value.int .i64 0) :: (Value.int .i64 0) :: (Value.int .i64 0) :: (Value.int .i64 0) :: (Value.slice none 0 0) :: (Value.int .i64 0) :: (Value.int .i64 0) :: (Value.slice none 0 0) :: (Value.int .i64 0) :: (Value.slice none 0 0) :: (Value.slice none 0 0) :: (Value.int .i64 0) :: (Value.int .i64 0) :: (Value.int .i64 0) :: (Value.int .i64 0) :: (Value.int .i64 0) :: (Value.int .i64 0) :: (Value.int .i64 0) :: (Value.int .i64 0) :: (Value.int .i64 0) :: (Value.bool false) :: (Value.int .i64 0) :: (Value.int .i64 0) :: (Value.int .i64 0) :: (Value.int .i64 0) :: (Value.int .i64 0) :: (Value.int .i64 0) :: (Value.slice none 0 0) :: (Value.slice none 0 0) :: []))
theorem ZM_pl : Pl ZM := pl_kind 0 0
set_option maxRecDepth 20000 in
set_option maxHeartbeats 4000000 in
theorem abs_any (w : World) (z : Int) (hz : B64 z) : Calls Try.prog 12 #[.int .i64 z] w fun e w' => (∃ m : Nat, e = .returned (.int .i64 (m : Int)) ∧ (m : Int) ≤ 9223372036854775807) ∧ w' = w := by
  by_cases h : z < 0
  · obtain ⟨m, hm⟩ : ∃ m : Nat, (m : Int) = -(z + 1) := ⟨(-(z + 1)).toNat, by omega⟩
    have h1 : -9223372036854775808 ≤ z + 1 := by omega
    have h2 : z + 1 ≤ 9223372036854775807 := by omega
    go_enter Try.func12, Try.ntmps12
    go_wp2_with fail
    go_ret
    exact ⟨⟨m, by rw [hm]; rfl, by omega⟩, rfl⟩
  · obtain ⟨m, hm⟩ : ∃ m : Nat, (m : Int) = z := ⟨z.toNat, by omega⟩
    go_enter Try.func12, Try.ntmps12
    go_wp2_with fail
    go_ret
    exact ⟨⟨m, by rw [hm]; rfl, by omega⟩, rfl⟩
theorem has_no {w : World} {n sent : Nat} {F : Nat → Prop} {v : Value} (h : NtZ w n F sent v []) (i : Nat) (hi : i ≤ 1000000) : Calls Try.prog 36 #[.pointer (some ⟨n, 0, none⟩), .int .i64 (i : Int)] w fun e w' => e = .returned (.bool false) ∧ w' = w := by
  have k := has_net w n sent F v [] h i (by omega)
  rw [show decide (0 ≤ (i : Int) ∧ (i : Int) < (([] : List Gm).length : Int)) = false by simp] at k
  exact k
theorem lose_none (w : World) (n sent : Nat) (F : Nat → Prop) (v : Value) (h : NtZ w n F sent v []) :
    Calls Try.prog 15 #[.pointer (some ⟨n, 0, none⟩), .int .i64 0] w fun e w' => e = .returned (.bool false) ∧ w' = w := by
  have kH := has_no h 0 (by omega)
  clear h
  go_enter Try.func15, Try.ntmps15
  go_wp2_with (go_at_call 36; refine kH.mono ?_; rintro e w1 ⟨he1, hw1⟩; have hw1 := hw1.symm; subst he1; subst hw1)
  go_ret
  exact ⟨rfl, rfl⟩
theorem twice_none (w : World) (n sent : Nat) (F : Nat → Prop) (v : Value) (h : NtZ w n F sent v []) :
    Calls Try.prog 17 #[.pointer (some ⟨n, 0, none⟩), .int .i64 0] w fun e w' => e = .returned (.bool false) ∧ w' = w := by
  have kH := has_no h 0 (by omega)
  clear h
  go_enter Try.func17, Try.ntmps17
  go_wp2_with (go_at_call 36; refine kH.mono ?_; rintro e w1 ⟨he1, hw1⟩; have hw1 := hw1.symm; subst he1; subst hw1)
  go_ret
  exact ⟨rfl, rfl⟩
set_option maxRecDepth 20000 in
set_option maxHeartbeats 4000000 in
theorem peek_none (w : World) (n sent : Nat) (F : Nat → Prop) (v : Value) (h : NtZ w n F sent v []) :
    Calls Try.prog 23 #[.pointer (some ⟨n, 0, none⟩), .int .i64 0] w fun e w' => e = .returned (.tuple #[.agg ZM, .bool false]) ∧ Grows w w' := by
  have kH := has_no (h.below ((Below.refl _ _).alloc (Nat.le_refl _) (.cells ZM 54))) 0 (by omega)
  have HI : Hid ((Try.prog.info? 54).map (·.size) = some ZM.size) := hide (Try.info_msg)
  have H1 := hide ZM_pl.one
  clear h
  go_enter Try.func23, Try.ntmps23
  go_wp2_with fail
  go_at_call 36
  refine kH.mono ?_
  rintro e w1 ⟨he1, hw1⟩
  have hw1 := hw1.symm
  subst he1
  subst hw1
  go_wp2_with (refine wpList_store_row rfl 54 (.tmp 4) (.tmp 10) rfl w.heap.size ZM rfl rfl 54 ZM (BxA.new _ _ _) HI.out rfl H1.out ?_)
  refine bodyPost_ret (results_two rfl _ _ w.heap.size 54 ZM _ (.bool false) rfl rfl (setRow_heap _ _ _ ZM _ _ (BxA.new _ _ _)) Try.underlying54 rfl HI.out) rfl ⟨rfl, ?_⟩
  exact (Grows.alloc w _).setRow ZM (Nat.le_refl _)
end Go.Proofs.Ytnkllgpibmofiaa
