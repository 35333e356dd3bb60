/- The reference's disk: counts. -/
import Derived.Test.YtdcoeebpknipdaaRf2
import Derived.Shelf.SlSortCmp.QuietGrown
import Derived.BigQuiet
namespace Go.Proofs.Ytdcoeebpknipdaa
open Go.RowKit Go.Maps Go.Sort
set_option linter.unusedVariables false

/-- An operation is counted: whether it is cut, and the disk. -/
def rcnt (s : RSt) : Bool × RSt := if (s.n : Int) = s.at_ then (true, rcut { s with n := s.n + 1 } s.part) else (false, { s with n := s.n + 1 })
theorem gro_below (w : World) (q : Nat) (os : Array Obj) : Below w.heap.size w (Go.Sort.grow (w.drewN q) os) :=
  ⟨rfl, rfl, rfl, by show _ ≤ ((w.drewN q).heap ++ os).size; rw [Array.size_append]; exact Nat.le_add_right _ _, fun i hi => by
    show ((w.drewN q).heap ++ os)[i]? = _
    rw [Array.getElem?_append_left (by exact hi)]
    rfl⟩
theorem gro_cell {w : World} {a : Addr} {v : Value} (h : w.cell? a = some v) (nq : Nat) (os : Array Obj) : (Go.Sort.grow (w.drewN nq) os).cell? a = some v := by
  rw [(gro_below w nq os).cell (World.block_lt_of_cell? _ _ h), h]
set_option maxRecDepth 100000 in
set_option maxHeartbeats 1600000 in
theorem refcounts_any (w : World) (r N : Nat) (F : Nat → Prop) (s : RSt) (h : Rd w r F N s) (hN : N ≤ 140737488355328) (hop : s.n < 1000000) (hp : s.part ≤ 9223372036854775807) :
    Calls Try.prog 56 #[.pointer (some ⟨r, 0, none⟩)] w fun e w' => e = .returned (.bool (rcnt s).1) ∧ Rm w w' r F N (rcnt s).2 := by
  have mixed : Try.prog.follows .mixedOrders = true := by kernel_rfl
  obtain ⟨Lv, Z, hz⟩ := h
  have c2 : w.cell? ⟨r, 2, none⟩ = some (.int .i64 (s.n : Int)) := BxA.cell hz.b 2 _ rfl
  have f2 := BxA.free hz.b 2
  have hb2 := BxA.set hz.b 2 (.int .i64 ((s.n : Int) + 1))
  have hz2 : RZ (w.setCell ⟨r, 2, none⟩ (.int .i64 ((s.n : Int) + 1))) r F N { s with n := s.n + 1 } Lv Z := hz.boxn (s' := { s with n := s.n + 1 }) (Lv' := Lv) 2 _ (by
    have e : (((s.n + 1 : Nat)) : Int) = (s.n : Int) + 1 := by omega
    show BxA _ r 34 #[Lv, .bool s.off, .int .i64 ((s.n + 1 : Nat) : Int), .int .i64 s.at_, .int .i64 s.part]
    rw [e]
    exact hb2) rfl (by show s.n + 1 ≤ 1000000; omega)
  have HFR : Hid (Fr F w (w.setCell ⟨r, 2, none⟩ (.int .i64 ((s.n : Int) + 1)))) := Fr.of_grown grown_setCell fun j hj => .inl (by cases hj; exact hz.f)
  obtain ⟨X, hX⟩ : ∃ X, X = w.setCell ⟨r, 2, none⟩ (.int .i64 ((s.n : Int) + 1)) := ⟨_, rfl⟩
  rw [← hX] at hz2 HFR
  have HX : Hid (X = w.setCell ⟨r, 2, none⟩ (.int .i64 ((s.n : Int) + 1))) := hX
  have HZ2 : Hid (RZ X r F N { s with n := s.n + 1 } Lv Z) := hz2
  have y2 : X.cell? ⟨r, 2, none⟩ = some (.int .i64 ((s.n : Int) + 1)) := by
    rw [hX, World.cell?_setCell_same (h := c2)]
  have y3 : X.cell? ⟨r, 3, none⟩ = some (.int .i64 s.at_) := BxA.cell hz2.b 3 _ rfl
  have y4 : X.cell? ⟨r, 4, none⟩ = some (.int .i64 s.part) := BxA.cell hz2.b 4 _ rfl
  have hw1 : wrap64 ((s.n : Int) + 1) = (s.n : Int) + 1 := by rw [← IntWalk.i64_left, IntKind.wrap_i64]; omega
  have hw2 : IntKind.i64.wrap ((s.n : Int) + 1) = (s.n : Int) + 1 := by rw [IntKind.wrap_i64]; omega
  obtain ⟨n, hn⟩ : ∃ n : Nat, n = s.n := ⟨_, rfl⟩
  obtain ⟨at_, hat⟩ : ∃ a, a = s.at_ := ⟨_, rfl⟩
  rw [← hn] at c2 y2 hw1 hw2 HX
  rw [← hat] at y3
  have HNS : Hid (n = s.n ∧ at_ = s.at_ ∧ n < 1000000) := ⟨hn, hat, by omega⟩
  have z2 := fun nq os => gro_cell y2 nq os
  have z3 := fun nq os => gro_cell y3 nq os
  clear hz hb2 hz2 hX hn hat
  go_enter Try.func56, Try.ntmps56
  go_upto_region 2 with fail
  rw [← HX.out]
  by_cases he : (n : Int) = at_
  · have HR : Hid (rcnt s = (true, rcut { s with n := s.n + 1 } s.part)) := by
      apply hide
      unfold rcnt
      rw [if_pos]
      rw [← HNS.out.1, ← HNS.out.2.1]
      exact he
    have he1 : (n : Int) + 1 - 1 = (n : Int) := by omega
    subst he
    have he2 : ((n : Int) != (n : Int)) = false := by simp
    have he3 : decide ((n : Int) = (n : Int)) = true := by simp
    have hw3 : wrap64 ((n : Int) + 1 - 1) = (n : Int) := by rw [← IntWalk.i64_left, IntKind.wrap_i64]; have := HNS.out.2.2; omega
    have hw4 : IntKind.i64.wrap ((n : Int) + 1 - 1) = (n : Int) := by rw [IntKind.wrap_i64]; have := HNS.out.2.2; omega
    have hw5 : wrap64 (n : Int) = (n : Int) := by rw [← IntWalk.i64_left, IntKind.wrap_i64]; have := HNS.out.2.2; omega
    have hw6 : IntKind.i64.wrap (n : Int) = (n : Int) := by rw [IntKind.wrap_i64]; have := HNS.out.2.2; omega
    refine wp_region_quiet_grown (by assumption) (by kernel_rfl) ?_
    repeat (go_big_quiet_step (fail))
    refine wpQuiet_nil ?_
    intro T hw'
    obtain ⟨⟨nq, osq⟩, hw''⟩ := hw'
    have HBT : Hid (RowKit.Below X.heap.size X T) := by apply hide; rw [hw'']; exact gro_below X nq osq
    have t4 : T.cell? ⟨r, 4, none⟩ = some (.int .i64 s.part) := by rw [HBT.out.cell (World.block_lt_of_cell? _ _ y4), y4]
    have kC := refcut_any T r N F { s with n := s.n + 1 } s.part (Rd.below ⟨Lv, Z, HZ2.out⟩ HBT.out) hN hp
    clear hw'' z2 z3 hw3 hw4 he1 he3
    go_wp2_with fail
    refine kC.mono ?_
    rintro e w9 ⟨rfl, ⟨F9, d9, hF9⟩, f9⟩
    have H9 : Hid (Rd w9 r F9 N (rcut { s with n := s.n + 1 } s.part) ∧ (∀ i, F9 i → F i ∨ T.heap.size ≤ i) ∧ Fr F T w9) := ⟨d9, hF9, f9⟩
    clear kC d9 hF9 f9
    go_wp2_with fail
    go_ret
    rw [HR.out]
    refine ⟨rfl, ⟨F9, H9.out.1, fun i hi => (H9.out.2.1 i hi).imp id fun q => ?_⟩, (HFR.out.trans (Fr.of_below HBT.out) fun _ _ h => h).trans H9.out.2.2 fun _ _ h => h⟩
    have h1 := HFR.out.size
    have h2 := HBT.out.size
    omega
  · have HR : Hid (rcnt s = (false, { s with n := s.n + 1 })) := by
      apply hide
      unfold rcnt
      rw [if_neg]
      rw [← HNS.out.1, ← HNS.out.2.1]
      exact he
    have he2 : ((n : Int) != at_) = true := by rw [bne_iff_ne]; exact he
    have he3 : decide ((n : Int) = at_) = false := decide_eq_false he
    have hw3 : wrap64 ((n : Int) + 1 - 1) = (n : Int) := by rw [← IntWalk.i64_left, IntKind.wrap_i64]; have := HNS.out.2.2; omega
    have hw4 : IntKind.i64.wrap ((n : Int) + 1 - 1) = (n : Int) := by rw [IntKind.wrap_i64]; have := HNS.out.2.2; omega
    have hw5 : wrap64 (n : Int) = (n : Int) := by rw [← IntWalk.i64_left, IntKind.wrap_i64]; have := HNS.out.2.2; omega
    have hw6 : IntKind.i64.wrap (n : Int) = (n : Int) := by rw [IntKind.wrap_i64]; have := HNS.out.2.2; omega
    refine wp_region_quiet_grown (by assumption) (by kernel_rfl) ?_
    repeat (go_big_quiet_step (fail))
    refine wpQuiet_nil ?_
    intro T hw'
    obtain ⟨⟨nq, osq⟩, hw''⟩ := hw'
    have HBT : Hid (RowKit.Below X.heap.size X T) := by apply hide; rw [hw'']; exact gro_below X nq osq
    clear hw'' z2 z3 hw3 hw4 he3
    go_wp2_with fail
    go_ret
    rw [HR.out]
    exact ⟨rfl, ⟨F, Rd.below ⟨Lv, Z, HZ2.out⟩ HBT.out, fun _ h => .inl h⟩, HFR.out.trans (Fr.of_below HBT.out) fun _ _ h => h⟩
end Go.Proofs.Ytdcoeebpknipdaa
