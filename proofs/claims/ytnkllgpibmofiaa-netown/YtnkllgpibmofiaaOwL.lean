/- Lists in new memory: list, at rows of any length; each, at one list. -/
import Derived.Test.YtnkllgpibmofiaaNta
import Derived.Laws.CopyRow
namespace Go.Proofs.Ytnkllgpibmofiaa
open Go.RowKit Go.Maps Go.Sort
set_option linter.unusedVariables false

theorem Try.info_segI : (Try.prog.info? 46).map (fun i => (i.zero.map (·.cells.size), i.size, i.bytes)) = some (some 5, 5, 40) := by kernel_rfl
theorem Try.info_strI : (Try.prog.info? 9).map (fun i => (i.zero.map (·.cells.size), i.size, i.bytes)) = some (some 1, 1, 16) := by kernel_rfl
theorem Try.info_intI : (Try.prog.info? 3).map (fun i => (i.zero.map (·.cells.size), i.size, i.bytes)) = some (some 1, 1, 8) := by kernel_rfl
theorem Try.info_sliI : (Try.prog.info? 86).map (fun i => (i.zero.map (·.cells.size), i.size, i.bytes)) = some (some 1, 1, 24) := by kernel_rfl
theorem info_partsI {P : Program} {e s b c : Nat} (h : (P.info? e).map (fun i => (i.zero.map (·.cells.size), i.size, i.bytes)) = some (some c, s, b)) : ∃ i z, P.info? e = some i ∧ i.zero = some z ∧ z.cells.size = c ∧ i.size = s ∧ i.bytes = b := by
  cases hi : P.info? e with
  | none => rw [hi] at h; cases h
  | some i =>
    rw [hi] at h
    simp only [Option.map_some, Option.some.injEq, Prod.mk.injEq] at h
    obtain ⟨h1, h2, h3⟩ := h
    cases hz : i.zero with
    | none => rw [hz] at h1; cases h1
    | some z =>
      rw [hz] at h1
      simp only [Option.map_some, Option.some.injEq] at h1
      exact ⟨i, z, rfl, hz, h1, h2, h3⟩
theorem own_nil (w : World) (base : Nat) (e k : Nat) : w.ownsRow base e k (.slice none 0 0) 0 [] := ⟨by simp, .inl ⟨rfl, rfl⟩⟩
theorem below_none {w w' : World} (h : w.grownBy w' none) : Below w.heap.size w w' := ⟨h.os, h.tape, h.output, h.size, fun i hi => h.block i hi (by simp)⟩
/-- New memory that holds a row. -/
def New (w0 w : World) (e k : Nat) (v : Value) (m : Nat) (xs : List Value) : Prop := w.ownsRow w0.heap.size e k v m xs ∧ Below w0.heap.size w0 w ∧ (v.ownBlock = none ∨ ∃ g, v.ownBlock = some g ∧ w0.heap.size ≤ g)
theorem listSeg_any (w : World) (u : Value) (m : Nat) (xs : List Value) (hr : RdsK 5 w u m xs) (h1 : ∀ u ∈ xs, u.oneCell' = true) (hm : m ≤ 1000000) : Calls Try.prog 49 #[u] w fun e w' => ∃ v', e = .returned v' ∧ New w w' 46 5 v' m xs := by
  obtain ⟨i0, z0, hi0, hz0, hz1, hz2, hz3⟩ := info_partsI Try.info_segI
  have HO := hide (own_nil w w.heap.size 46 5)
  have HR := hide hr
  have H1 := hide h1
  have HM : Hid (0 + m ≤ maxLen ∧ ((0 + m) + (0 + m) / 4 + 192) * 40 ≤ 281474976710656) := hide ⟨by unfold maxLen; omega, by omega⟩
  clear hr h1 hm
  go_enter Try.func49, Try.ntmps49
  go_wp2_with (at_builtin; refine wpList_appF rfl _ _ 51 rfl w.heap.size 46 i0 z0 5 40 Try.underlying51 hi0 hz0 hz2 hz3 hz1 (by decide) (.slice none 0 0) 0 [] rfl HO.out u m xs rfl HR.out H1.out HM.out.1 HM.out.2 (Nat.le_refl _) ?_; intro v4 w4 o4 g4 p4; have HO4 := hide o4; have HG4 : Hid (w.grownBy w4 none) := hide g4; have HP4 := hide p4; clear o4 g4 p4)
  go_ret
  refine ⟨_, rfl, ?_, below_none HG4.out, HP4.out⟩
  have := HO4.out
  rw [Nat.zero_add, List.nil_append] at this
  exact this
theorem listStr_any (w : World) (u : Value) (m : Nat) (xs : List Value) (hr : RdsK 1 w u m xs) (h1 : ∀ u ∈ xs, u.oneCell' = true) (hm : m ≤ 1000000) : Calls Try.prog 65 #[u] w fun e w' => ∃ v', e = .returned v' ∧ New w w' 9 1 v' m xs := by
  obtain ⟨i0, z0, hi0, hz0, hz1, hz2, hz3⟩ := info_partsI Try.info_strI
  have HO := hide (own_nil w w.heap.size 9 1)
  have HR := hide hr
  have H1 := hide h1
  have HM : Hid (0 + m ≤ maxLen ∧ ((0 + m) + (0 + m) / 4 + 192) * 16 ≤ 281474976710656) := hide ⟨by unfold maxLen; omega, by omega⟩
  clear hr h1 hm
  go_enter Try.func65, Try.ntmps65
  go_wp2_with (at_builtin; refine wpList_appF rfl _ _ 32 rfl w.heap.size 9 i0 z0 1 16 Try.underlying32 hi0 hz0 hz2 hz3 hz1 (by decide) (.slice none 0 0) 0 [] rfl HO.out u m xs rfl HR.out H1.out HM.out.1 HM.out.2 (Nat.le_refl _) ?_; intro v4 w4 o4 g4 p4; have HO4 := hide o4; have HG4 : Hid (w.grownBy w4 none) := hide g4; have HP4 := hide p4; clear o4 g4 p4)
  go_ret
  refine ⟨_, rfl, ?_, below_none HG4.out, HP4.out⟩
  have := HO4.out
  rw [Nat.zero_add, List.nil_append] at this
  exact this
theorem listInt_any (w : World) (u : Value) (m : Nat) (xs : List Value) (hr : RdsK 1 w u m xs) (h1 : ∀ u ∈ xs, u.oneCell' = true) (hm : m ≤ 1000000) : Calls Try.prog 69 #[u] w fun e w' => ∃ v', e = .returned v' ∧ New w w' 3 1 v' m xs := by
  obtain ⟨i0, z0, hi0, hz0, hz1, hz2, hz3⟩ := info_partsI Try.info_intI
  have HO := hide (own_nil w w.heap.size 3 1)
  have HR := hide hr
  have H1 := hide h1
  have HM : Hid (0 + m ≤ maxLen ∧ ((0 + m) + (0 + m) / 4 + 192) * 8 ≤ 281474976710656) := hide ⟨by unfold maxLen; omega, by omega⟩
  clear hr h1 hm
  go_enter Try.func69, Try.ntmps69
  go_wp2_with (at_builtin; refine wpList_appF rfl _ _ 86 rfl w.heap.size 3 i0 z0 1 8 Try.underlying86 hi0 hz0 hz2 hz3 hz1 (by decide) (.slice none 0 0) 0 [] rfl HO.out u m xs rfl HR.out H1.out HM.out.1 HM.out.2 (Nat.le_refl _) ?_; intro v4 w4 o4 g4 p4; have HO4 := hide o4; have HG4 : Hid (w.grownBy w4 none) := hide g4; have HP4 := hide p4; clear o4 g4 p4)
  go_ret
  refine ⟨_, rfl, ?_, below_none HG4.out, HP4.out⟩
  have := HO4.out
  rw [Nat.zero_add, List.nil_append] at this
  exact this
end Go.Proofs.Ytnkllgpibmofiaa
