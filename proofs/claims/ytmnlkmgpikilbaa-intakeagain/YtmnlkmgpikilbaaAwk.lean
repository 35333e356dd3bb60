/- The start-up law awake: it answers true, and what it makes lies in new memory. -/
import Derived.Test.YtmnlkmgpikilbaaStA
namespace Go.Proofs.Ytmnlkmgpikilbaa
open Go.RowKit Go.Maps Go.Sort
set_option linter.unusedVariables false

theorem own_at {w : World} {b e k n : Nat} {v : Value} {xs : List Value} (h : w.ownsRow b e k v n xs) (hn : 0 < n) : ∃ g c, v = .slice (some ⟨g, 0, none⟩) n c ∧ n ≤ c ∧ c ≤ maxLen ∧ ∀ j u, xs[j]? = some u → w.cell? ⟨g, j, none⟩ = some u := by
  obtain ⟨ao, cap, e1, h0, h2, h3, h4, h5⟩ := RdsK.of_own h
  rcases h.2 with ⟨_, q⟩ | ⟨g, c, cur, q, _⟩
  · omega
  · rw [q] at e1
    injection e1 with e1 _ e3
    subst e3
    refine ⟨g, _, q, h2, h3, fun j u hj => ?_⟩
    have := h5 _ e1.symm j u hj
    rw [Addr.add_lit, Nat.zero_add] at this
    exact this
theorem chks_two : Chks 10 [15, 2] [(0, 10), (10, 20)] := by
  refine ⟨by decide, by decide, fun k => ?_⟩
  simp only [List.mem_cons, List.not_mem_nil, or_false, exists_eq_or_imp, exists_eq_left]
  have e1 : spn 10 15 = (10, 20) := by decide
  have e2 : spn 10 2 = (0, 10) := by decide
  rw [e1, e2]
  constructor
  · rintro (h | h)
    · exact .inr h.symm
    · exact .inl h.symm
  · rintro (h | h)
    · exact .inr h.symm
    · exact .inl h.symm
set_option maxRecDepth 20000 in
set_option maxHeartbeats 4000000 in
theorem awake_any (w : World) : Calls Try.prog 9 #[] w fun e w' => e = .returned (.bool true) ∧ Below w.heap.size w w' := by
  go_enter Try.func9, Try.ntmps9
  go_upto_region 4 with (
    go_at_call 10
    refine (St.new w 10 (by constructor <;> decide) 2 (by decide)).mono ?_
    rintro e w1 ⟨x, he1, hs1⟩
    subst he1
    have HS1 := hide hs1
    clear hs1)
  go_upto_region 5 with (first
  | (go_at_call 19
     refine (at_any 15 _).mono ?_
     rintro e w2a ⟨he2a, hg2a⟩
     subst he2a
     have HS2a := hide (HS1.out.up hg2a.below)
     clear hg2a)
  | (go_at_call 18
     refine (HS2a.out.good (by decide) (by simp) 3 rfl 15 (by constructor <;> decide)).mono ?_
     rintro e w2 ⟨he2, hs2⟩
     subst he2
     obtain ⟨v2, hs2⟩ := hs2
     have HS2 := hide hs2
     clear hs2))
  go_upto_region 6 with (first
  | (go_at_call 19
     refine (at_any 2 _).mono ?_
     rintro e w3a ⟨he3a, hg3a⟩
     subst he3a
     have HS3a := hide (HS2.out.up hg3a.below)
     clear hg3a)
  | (go_at_call 18
     refine (HS3a.out.good (by decide) (by simp) 4 rfl 2 (by constructor <;> decide)).mono ?_
     rintro e w3 ⟨he3, hs3⟩
     subst he3
     obtain ⟨v3, hs3⟩ := hs3
     have HS3 := hide hs3
     clear hs3))
  go_upto_region 7 with (first
  | (go_at_call 19
     refine (at_any 9 _).mono ?_
     rintro e w4a ⟨he4a, hg4a⟩
     subst he4a
     have HS4a := hide (HS3.out.up hg4a.below)
     clear hg4a)
  | (go_at_call 18
     refine (HS4a.out.old (by decide) (by simp) 4 (by simp) 9).mono ?_
     rintro e w4 ⟨he4, hs4⟩
     subst he4
     skip
     have HS4 := hide hs4
     clear hs4))
  go_upto_region 8 with (first
  | (go_at_call 19
     refine (at_any 1 _).mono ?_
     rintro e w5a ⟨he5a, hg5a⟩
     subst he5a
     have HS5a := hide (HS4.out.up hg5a.below)
     clear hg5a)
  | (go_at_call 18
     refine (HS5a.out.gap (by decide) (by simp) 6 (by simp) 1).mono ?_
     rintro e w5 ⟨he5, hs5⟩
     subst he5
     skip
     have HS5 := hide hs5
     clear hs5))
  go_upto_region 9 with (first
  | (go_at_call 19
     refine (at_any (-1) _).mono ?_
     rintro e w6a ⟨he6a, hg6a⟩
     subst he6a
     have HS6a := hide (HS5.out.up hg6a.below)
     clear hg6a)
  | (go_at_call 18
     refine (HS6a.out.neg (by decide) (by simp) 5 rfl (-1) (by decide)).mono ?_
     rintro e w6 ⟨he6, hs6⟩
     subst he6
     skip
     have HS6 := hide hs6
     clear hs6))
  have HS7 : Hid (St w w6 x 10 nl [] { num := 1, fr := 2, up := 4, v := v3, ts := [15, 2] }) := HS6
  clear HS1 HS2 HS3 HS4 HS5 HS6 HS2a HS3a HS4a HS5a HS6a
  go_upto_region 10 with (
    go_at_call 20
    go_loud (
      refine (HS7.out.sealGood (by constructor <;> decide) (by simp) (by simp) (by simp) (by constructor <;> simp)).mono ?_
      rintro e w7 ⟨s7, he7, ⟨sv7, hs7⟩, ⟨ss, gv, k1, k2, k3⟩⟩
      subst he7
      have hss := k1.eq chks_two
      subst hss
      obtain ⟨g7, c7, hx7, hc71, hc72, hcell⟩ := own_at k2 (by decide)
      subst hx7
      have m3 : w7.cell? ⟨g7, 3, none⟩ = some (.int .i64 10) := hcell 3 _ rfl
      have m4 : w7.cell? ⟨g7, 4, none⟩ = some (.int .i64 20) := hcell 4 _ rfl
      have HS8 := hide hs7)
    clear hs7 k1 k2 k3 hcell)
  obtain ⟨W8, hW8⟩ : ∃ W8, W8 = w7.alloc (.cells #[.int .i64 1, .int .u64 2, .int .u64 4, .slice (some ⟨g7, 0, none⟩) 2 c7] 51) := ⟨_, rfl⟩
  obtain ⟨g8, hg8⟩ : ∃ g8, g8 = w7.heap.size := ⟨_, rfl⟩
  have hb8 : Below w7.heap.size w7 W8 := by rw [hW8]; exact (Below.refl _ _).alloc (Nat.le_refl _) _
  have hX8 : BxA W8 g8 51 #[.int .i64 1, .int .u64 2, .int .u64 4, .slice (some ⟨g7, 0, none⟩) 2 c7] := by rw [hW8, hg8]; exact BxA.new _ _ _
  have m3' := cell_upB hb8 m3
  have m4' := cell_upB hb8 m4
  have HS8' := hide (HS8.out.up hb8)
  have HX8 := hide hX8
  have HC7 : Hid (2 ≤ c7) := hide hc71
  rw [← hW8, ← hg8]
  clear m3 m4 HS7 HS8 hb8 hX8 hW8 hg8 hc71
  go_upto_region 11 with (
    go_at_call 21
    refine (HS8'.out.behind (by decide) 3 (by simp [rls]) (by simp) (by simp) (by simp) (by simp) (fun i => by rcases i with _ | i <;> simp [bh, ahd])).mono ?_
    rintro e w9 ⟨v9, he9, hs9, hr9, hb9⟩
    subst he9
    obtain ⟨g9, c9, hx9, hc91, hc92, hcell⟩ := own_at (n := 1) hr9 (by decide)
    subst hx9
    have m9 : w9.cell? ⟨g9, 0, none⟩ = some (.int .i64 2) := hcell 0 _ rfl
    have m3 := cell_upB hb9 m3'
    have m4 := cell_upB hb9 m4'
    have HX9 := hide (bx_up HX8.out hb9)
    have HB9 := hide hs9.bl
    clear hcell m3' m4' hs9 hr9 hb9)
  have q1 : w9.cell? ⟨g8, 1, none⟩ = some (.int .u64 2) := HX9.out.cell 1 _ rfl
  have q2 : w9.cell? ⟨g8, 2, none⟩ = some (.int .u64 4) := HX9.out.cell 2 _ rfl
  have q3 : w9.cell? ⟨g8, 3, none⟩ = some (.slice (some ⟨g7, 0, none⟩) 2 c7) := HX9.out.cell 3 _ rfl
  go_wp2_with fail
  go_ret
  exact ⟨rfl, HB9.out⟩
end Go.Proofs.Ytmnlkmgpikilbaa
