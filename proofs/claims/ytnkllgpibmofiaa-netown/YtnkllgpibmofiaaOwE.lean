/- A list of one list, in new memory. -/
import Derived.Test.YtnkllgpibmofiaaOwL
namespace Go.Proofs.Ytnkllgpibmofiaa
open Go.RowKit Go.Maps Go.Sort
set_option linter.unusedVariables false

theorem own_at0 {w : World} {base e : Nat} {v u : Value} (h : w.ownsRow base e 1 v 1 [u]) : ∃ b c, v = .slice (some ⟨b, 0, none⟩) 1 c ∧ 1 ≤ c ∧ c ≤ maxLen ∧ base ≤ b ∧ w.cell? ⟨b, 0, none⟩ = some u := by
  rcases h.2 with ⟨_, hn⟩ | ⟨g, cap, cur, rfl, hb, hg, hnc, hcm, _⟩
  · omega
  · have := World.ownsRow.cells h rfl 0 u rfl
    rw [Addr.add_lit] at this
    exact ⟨g, cap, rfl, hnc, hcm, hb, this⟩
theorem litK (w : World) (t : TypeId) (u : Value) : RdsK 1 (w.alloc (.cells #[u] t)) (.slice (some ⟨w.heap.size, 0, none⟩) 1 1) 1 [u] := by
  refine ⟨some ⟨w.heap.size, 0, none⟩, 1, rfl, by simp, Nat.le_refl _, by decide, (fun h => by cases h), ?_⟩
  rintro ad ⟨rfl⟩
  intro j v hj
  have hj0 : j = 0 := by
    cases j with
    | zero => rfl
    | succ j => simp at hj
  subst hj0
  simp only [List.getElem?_cons_zero, Option.some.injEq] at hj
  subst hj
  have hb : BxA (w.alloc (.cells #[u] t)) w.heap.size t #[u] := BxA.new _ _ _
  exact hb.cell 0 u rfl
theorem own_below {w w' : World} {base e k n : Nat} {v : Value} {xs : List Value} (h : w.ownsRow base e k v n xs) (hb : Below w.heap.size w w') : w'.ownsRow base e k v n xs := by
  refine ⟨h.1, ?_⟩
  rcases h.2 with h2 | ⟨g', cap, cur, h1, h2, h3, h4⟩
  · exact .inl h2
  · refine .inr ⟨g', cap, cur, h1, h2, ?_, h4⟩
    rw [hb.block g' (Array.getElem?_eq_some_iff.1 h3).1]
    exact h3
set_option maxRecDepth 20000 in
set_option maxHeartbeats 2000000 in
theorem eachset_one (w : World) (b cap : Nat) (u : Value) (m : Nat) (xs : List Value) (hc : w.cell? ⟨b, 0, none⟩ = some u) (hcap : 1 ≤ cap) (hr : RdsK 1 w u m xs) (h1 : ∀ u ∈ xs, u.oneCell' = true) (hm : m ≤ 1000000) :
    Calls Try.prog 68 #[.slice (some ⟨b, 0, none⟩) 1 cap, .func (.func 69) #[] #[]] w fun e w' => ∃ v' i', e = .returned v' ∧ w'.ownsRow w.heap.size 86 1 v' 1 [i'] ∧ w'.ownsRow w.heap.size 3 1 i' m xs ∧ Below w.heap.size w w' := by
  obtain ⟨i0, z0, hi0, hz0, hz1, hz2, hz3⟩ := info_partsI Try.info_sliI
  have kL := fun W (hb : Below w.heap.size w W) => listInt_any W u m xs (hr.below hb) h1 hm
  have hb0 := World.block_lt_of_cell? _ _ hc
  clear hr h1
  go_enter Try.func68, Try.ntmps68
  go_wp2_with fail
  refine wp_loop_rounds 2 ?_
  rw [rounds_succ]
  go_wp2_with fail
  go_at_call 69
  refine (kL _ (Below.refl _ _)).mono ?_
  rintro e w1 ⟨i', he1, ho1, hb1, -⟩
  subst he1
  obtain ⟨a', c', hsl⟩ := own_sl ho1
  subst hsl
  have HO1 := hide ho1
  have HB1 := hide hb1
  have HL := hide (litK w1 86 (.slice a' m c'))
  have HN := hide (own_nil (w1.alloc (.cells #[(.slice a' m c')] 86)) w.heap.size 86 1)
  have HS : Hid (w.heap.size ≤ (w1.alloc (.cells #[(.slice a' m c')] 86)).heap.size) := by apply hide; have := hb1.size; simp; omega
  clear kL ho1 hb1
  go_wp2_with (at_builtin; refine wpList_appF rfl _ _ 41 rfl w.heap.size 86 i0 z0 1 24 Try.underlying41 hi0 hz0 hz2 hz3 hz1 (by decide) (.slice none 0 0) 0 [] rfl HN.out (.slice (some ⟨w1.heap.size, 0, none⟩) 1 1) 1 [(.slice a' m c')] rfl HL.out (fun u hu => by simp only [List.mem_cons, List.not_mem_nil, or_false] at hu; subst hu; rfl) (by decide) (by decide) HS.out ?_; intro v4 w4 o4 g4 p4; have HO4 := hide o4; have HG4 : Hid ((w1.alloc (.cells #[(.slice a' m c')] 86)).grownBy w4 none) := hide g4; have HP4 := hide p4; clear o4 g4 p4)
  rw [rounds_succ]
  go_wp2_with fail
  go_ret
  have hb4 : Below w1.heap.size w1 w4 := ((Below.refl _ _).alloc (Nat.le_refl _) _).trans ((below_none HG4.out).mono (by simp))
  have hbw : Below w.heap.size w w4 := HB1.out.trans (hb4.mono HB1.out.size)
  refine ⟨_, .slice a' m c', rfl, ?_, ?_, hbw⟩
  · have := HO4.out
    rw [Nat.zero_add, List.nil_append] at this
    exact this
  · exact own_below HO1.out hb4
end Go.Proofs.Ytnkllgpibmofiaa
