/- A net in memory, and its plain functions. -/
import Derived.Test.YtnkllgpibmofiaaCpm
import Derived.Test.YtnkllgpibmofiaaDel2
namespace Go.Proofs.Ytnkllgpibmofiaa
open Go.RowKit Go.Maps Go.Sort
set_option linter.unusedVariables false

abbrev Gm := Nat × Array Value
def pvs (Z : List Gm) : List Value := Z.map fun x => .pointer (some ⟨x.1, 0, none⟩)
theorem pvs_length (Z : List Gm) : (pvs Z).length = Z.length := by simp [pvs]
theorem pvs_one (Z : List Gm) : ∀ u ∈ pvs Z, u.oneCell' = true := by
  intro u hu; simp [pvs] at hu; obtain ⟨_, _, _, rfl⟩ := hu; rfl
theorem pvs_append (Y Z : List Gm) : pvs (Y ++ Z) = pvs Y ++ pvs Z := by simp [pvs]
theorem pvs_erase (Z : List Gm) (i : Nat) : pvs (Z.eraseIdx i) = (pvs Z).eraseIdx i := by
  unfold pvs
  rw [List.eraseIdx_eq_take_drop_succ, List.eraseIdx_eq_take_drop_succ, List.map_append, List.map_take, List.map_drop]
structure NtZ (w : World) (n : Nat) (F : Nat → Prop) (sent : Nat) (v : Value) (Z : List Gm) : Prop where
  b : BxA w n 89 #[.int .u64 (sent : Int), v]
  f : F n
  o : w.ownsRow 0 91 1 v Z.length (pvs Z)
  fv : ∀ r, v.ownBlock = some r → F r
  e : ∀ x ∈ Z, BxA w x.1 54 x.2 ∧ Pl x.2 ∧ F x.1
  lt : ∀ i, F i → i < w.heap.size
theorem NtZ.frame {w w' : World} {n sent : Nat} {F : Nat → Prop} {v : Value} {Z : List Gm} (h : NtZ w n F sent v Z) (hs : w.heap.size ≤ w'.heap.size) (hb : ∀ i, F i → w'.heap[i]? = w.heap[i]?) : NtZ w' n F sent v Z := by
  refine ⟨by have := h.b; unfold BxA at this ⊢; rw [hb _ h.f]; exact this, h.f, ⟨h.o.1, ?_⟩, h.fv, fun x hx => ?_, fun i hi => Nat.lt_of_lt_of_le (h.lt i hi) hs⟩
  · rcases h.o.2 with h2 | ⟨g', cap, cur, h1, h2, h3, h4⟩
    · exact .inl h2
    · refine .inr ⟨g', cap, cur, h1, h2, ?_, h4⟩
      rw [hb g' (h.fv g' (by rw [h1]; rfl))]
      exact h3
  · obtain ⟨a, b, c⟩ := h.e x hx
    exact ⟨by unfold BxA at a ⊢; rw [hb _ c]; exact a, b, c⟩
theorem NtZ.below {w w' : World} {n sent : Nat} {F : Nat → Prop} {v : Value} {Z : List Gm} (h : NtZ w n F sent v Z) (hb : Below w.heap.size w w') : NtZ w' n F sent v Z := h.frame hb.size fun i hi => hb.block i (h.lt i hi)
theorem netNew_any (w : World) : Calls Try.prog 9 #[] w fun e w' => e = .returned (.pointer (some ⟨w.heap.size, 0, none⟩)) ∧ NtZ w' w.heap.size (fun i => i = w.heap.size) 0 (.slice none 0 0) [] ∧ Below w.heap.size w w' := by
  go_enter Try.func9, Try.ntmps9
  go_wp2_with fail
  go_ret
  exact ⟨rfl, ⟨BxA.new _ _ _, rfl, ⟨rfl, .inl ⟨rfl, rfl⟩⟩, (fun _ h => by cases h), (fun _ h => by cases h), fun i hi => by rw [hi]; simp⟩, (Below.refl _ _).alloc (Nat.le_refl _) _⟩
theorem waiting_any (w : World) (n sent : Nat) (F : Nat → Prop) (v : Value) (Z : List Gm) (h : NtZ w n F sent v Z) : Calls Try.prog 22 #[.pointer (some ⟨n, 0, none⟩)] w fun e w' => e = .returned (.int .i64 (Z.length : Int)) ∧ w' = w := by
  obtain ⟨a, c, hv⟩ := own_sl h.o
  have c1 := h.b.cell 1 _ rfl
  rw [hv] at c1
  obtain ⟨m, hm⟩ : ∃ m, m = Z.length := ⟨_, rfl⟩
  rw [← hm] at c1 ⊢
  clear h hv hm
  go_enter Try.func22, Try.ntmps22
  go_wp2_with fail
  go_ret
  exact ⟨rfl, rfl⟩
theorem has_net (w : World) (n sent : Nat) (F : Nat → Prop) (v : Value) (Z : List Gm) (h : NtZ w n F sent v Z) (i : Int) (hi : -9223372036854775808 ≤ i ∧ i ≤ 9223372036854775807) : Calls Try.prog 36 #[.pointer (some ⟨n, 0, none⟩), .int .i64 i] w fun e w' => e = .returned (.bool (decide (0 ≤ i ∧ i < (Z.length : Int)))) ∧ w' = w := by
  have kW := waiting_any w n sent F v Z h
  obtain ⟨m, hm⟩ : ∃ m, m = Z.length := ⟨_, rfl⟩
  rw [← hm] at kW ⊢
  clear h hm
  by_cases h0 : 0 ≤ i
  · by_cases h1 : i < (m : Int)
    · go_enter Try.func36, Try.ntmps36
      go_wp2_with (go_at_call 22; refine kW.mono ?_; rintro e w1 ⟨rfl, hw1⟩; have hw1 := hw1.symm; subst hw1)
      go_ret
      exact ⟨by simp [h0, h1], rfl⟩
    · go_enter Try.func36, Try.ntmps36
      go_wp2_with (go_at_call 22; refine kW.mono ?_; rintro e w1 ⟨rfl, hw1⟩; have hw1 := hw1.symm; subst hw1)
      go_ret
      exact ⟨by simp; omega, rfl⟩
  · go_enter Try.func36, Try.ntmps36
    go_wp2_with (go_at_call 22; refine kW.mono ?_; rintro e w1 ⟨rfl, hw1⟩; have hw1 := hw1.symm; subst hw1)
    go_ret
    exact ⟨by simp; omega, rfl⟩
end Go.Proofs.Ytnkllgpibmofiaa
