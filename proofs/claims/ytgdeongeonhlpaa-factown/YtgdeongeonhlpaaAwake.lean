/- The contract of awake. -/
import Derived.Test.YtgdeongeonhlpaaCheck
namespace Go.Proofs.Ytgdeongeonhlpaa
open Go.RowKit Go.Sort

def xF : Ft := ⟨1, [[97]], []⟩
def yF : Ft := ⟨2, [], []⟩
theorem xy_facts : cmpF xF yF = -1 ∧ chk 1 0 xF = 0 ∧ chk 0 0 xF = 40 := by decide +kernel
theorem xy_bag : IsBag [(xF, 1), (yF, 1), (xF, 1)] [(xF, 2), (yF, 1)] := by
  have hne : xF ≠ yF := by decide
  refine ⟨⟨?_, ?_⟩, fun f => ?_⟩
  · simp only [List.pairwise_cons, List.mem_singleton, forall_eq, List.not_mem_nil, false_implies, implies_true, List.Pairwise.nil, and_true]
    rw [xy_facts.1]; decide
  · intro r hr
    simp only [List.mem_cons, List.not_mem_nil, or_false] at hr
    rcases hr with rfl | rfl <;> decide
  · simp only [cntR_cons, cntR_nil]
    by_cases h1 : xF = f
    · rw [if_pos h1, if_neg (fun h2 => hne (h1.trans h2.symm)), if_pos h1]
    · rw [if_neg h1, if_neg h1]
theorem xy_rows {l : List En} (h : IsBag [(xF, 1), (yF, 1), (xF, 1)] (rows l)) : rows l = [(xF, 2), (yF, 1)] := h.uniq xy_bag fun _ => rfl

theorem al_new (w : World) (cs : Array Value) (t : TypeId) {B o : Nat} {v : Value} (hB : B = w.heap.size) (h : cs[o]? = some v) : (w.alloc (.cells cs t)).cell? ⟨B, o, none⟩ = some v := by
  subst hB
  simpa using h
set_option maxRecDepth 100000 in
set_option maxHeartbeats 4000000 in
theorem awake_any (w : World) : Calls Try.prog 9 #[] w fun e w' => e = .returned (.bool true) ∧ Below w.heap.size w w' := by
  obtain ⟨W1, hW1⟩ : ∃ W, W = w.alloc (.cells #[.string ⟨#[97]⟩] 9) := ⟨_, rfl⟩
  obtain ⟨W2, hW2⟩ : ∃ W, W = W1.alloc (.cells #[.int .i64 1, .slice (some ⟨w.heap.size, 0, none⟩) 1 1, .slice none 0 0] 27) := ⟨_, rfl⟩
  obtain ⟨W3, hW3⟩ : ∃ W, W = W2.alloc (.cells #[.int .i64 2, .slice none 0 0, .slice none 0 0] 27) := ⟨_, rfl⟩
  obtain ⟨W, hW4⟩ : ∃ W, W = W3.alloc (.cells #[.int .i64 1, .slice (some ⟨w.heap.size, 0, none⟩) 1 1, .slice none 0 0, .int .i64 2, .slice none 0 0, .slice none 0 0, .int .i64 1, .slice (some ⟨w.heap.size, 0, none⟩) 1 1, .slice none 0 0] 27) := ⟨_, rfl⟩
  have z1 : W1.heap.size = w.heap.size + 1 := by rw [hW1]; simp
  have z2 : W2.heap.size = w.heap.size + 2 := by rw [hW2]; simp [z1]
  have z3 : W3.heap.size = w.heap.size + 3 := by rw [hW3]; simp [z2]
  have zW : W.heap.size = w.heap.size + 4 := by rw [hW4]; simp [z3]
  have b1 : Below w.heap.size w W1 := by rw [hW1]; exact (Below.refl _ _).alloc (Nat.le_refl _) _
  have b2 : Below w.heap.size w W2 := by rw [hW2]; exact b1.alloc (by omega) _
  have b3 : Below w.heap.size w W3 := by rw [hW3]; exact b2.alloc (by omega) _
  have bW : Below w.heap.size w W := by rw [hW4]; exact b3.alloc (by omega) _
  have s1 : W1.cell? ⟨w.heap.size, 0, none⟩ = some (.string ⟨#[97]⟩) := by rw [hW1]; exact al_new _ _ _ rfl rfl
  have x0' : W2.cell? ⟨w.heap.size + 1, 0, none⟩ = some (.int .i64 1) := by rw [hW2]; exact al_new _ _ _ z1.symm rfl
  have x1' : W2.cell? ⟨w.heap.size + 1, 1, none⟩ = some (.slice (some ⟨w.heap.size, 0, none⟩) 1 1) := by rw [hW2]; exact al_new _ _ _ z1.symm rfl
  have x2' : W2.cell? ⟨w.heap.size + 1, 2, none⟩ = some (.slice none 0 0) := by rw [hW2]; exact al_new _ _ _ z1.symm rfl
  have y0' : W3.cell? ⟨w.heap.size + 2, 0, none⟩ = some (.int .i64 2) := by rw [hW3]; exact al_new _ _ _ z2.symm rfl
  have y1' : W3.cell? ⟨w.heap.size + 2, 1, none⟩ = some (.slice none 0 0) := by rw [hW3]; exact al_new _ _ _ z2.symm rfl
  have y2' : W3.cell? ⟨w.heap.size + 2, 2, none⟩ = some (.slice none 0 0) := by rw [hW3]; exact al_new _ _ _ z2.symm rfl
  have up2 : ∀ {a : Addr} {v : Value}, W2.cell? a = some v → W.cell? a = some v := fun h => by rw [hW4, hW3]; exact cell_alloc_sl _ (cell_alloc_sl _ h)
  have up3 : ∀ {a : Addr} {v : Value}, W3.cell? a = some v → W.cell? a = some v := fun h => by rw [hW4]; exact cell_alloc_sl _ h
  have sW : W.cell? ⟨w.heap.size, 0, none⟩ = some (.string ⟨#[97]⟩) := by rw [hW4, hW3, hW2]; exact cell_alloc_sl _ (cell_alloc_sl _ (cell_alloc_sl _ s1))
  have nW : ∀ (o : Nat) {v : Value}, (#[Value.int .i64 1, .slice (some ⟨w.heap.size, 0, none⟩) 1 1, .slice none 0 0, .int .i64 2, .slice none 0 0, .slice none 0 0, .int .i64 1, .slice (some ⟨w.heap.size, 0, none⟩) 1 1, .slice none 0 0])[o]? = some v → W.cell? ⟨w.heap.size + 3, o, none⟩ = some v := fun o {v} h => by rw [hW4]; exact al_new _ _ _ z3.symm h
  have hW : W = (((w.alloc (.cells #[.string ⟨#[97]⟩] 9)).alloc (.cells #[.int .i64 1, .slice (some ⟨w.heap.size, 0, none⟩) 1 1, .slice none 0 0] 27)).alloc (.cells #[.int .i64 2, .slice none 0 0, .slice none 0 0] 27)).alloc (.cells #[.int .i64 1, .slice (some ⟨w.heap.size, 0, none⟩) 1 1, .slice none 0 0, .int .i64 2, .slice none 0 0, .slice none 0 0, .int .i64 1, .slice (some ⟨w.heap.size, 0, none⟩) 1 1, .slice none 0 0] 27) := by rw [hW4, hW3, hW2, hW1]
  clear hW1 hW2 hW3 hW4
  obtain ⟨X, hX⟩ : ∃ X : Fc, X = ⟨1, .slice (some ⟨w.heap.size, 0, none⟩) 1 1, .slice none 0 0, [[97]], []⟩ := ⟨_, rfl⟩
  obtain ⟨Y, hY⟩ : ∃ Y : Fc, Y = ⟨2, .slice none 0 0, .slice none 0 0, [], []⟩ := ⟨_, rfl⟩
  have oX : X.Ok W := by
    rw [hX]
    refine ⟨⟨some ⟨w.heap.size, 0, none⟩, 1, rfl, Nat.le_refl _, by decide, (fun h => by cases h), ?_⟩, Rds.nil W, by show 1 * 16 ≤ _; decide, by show 0 * 8 ≤ _; decide⟩
    rintro ad ⟨rfl⟩ j u hj
    rw [Addr.add_lit, Nat.zero_add]
    have hj0 : j = 0 := by
      have := (List.getElem?_eq_some_iff.1 hj).1
      simp [sv] at this
      exact this
    subst hj0
    rw [sW]
    simpa [sv] using hj
  have oY : Y.Ok W := by rw [hY]; exact ⟨Rds.nil W, Rds.nil W, by show 0 * 16 ≤ _; decide, by show 0 * 8 ≤ _; decide⟩
  have rF : RdsF W (.slice (some ⟨w.heap.size + 3, 0, none⟩) 3 3) [X, Y, X] := by
    refine ⟨⟨some ⟨w.heap.size + 3, 0, none⟩, 3, rfl, by rw [fv_length], Nat.le_refl _, by decide, (fun h => by cases h), ?_⟩, fun e he => ?_⟩
    · rintro ad ⟨rfl⟩ j u hj
      rw [Addr.add_lit, Nat.zero_add]
      have hj9 : j < 9 := by
        have := (List.getElem?_eq_some_iff.1 hj).1
        rw [fv_length] at this
        exact this
      have : j = 0 ∨ j = 1 ∨ j = 2 ∨ j = 3 ∨ j = 4 ∨ j = 5 ∨ j = 6 ∨ j = 7 ∨ j = 8 := by omega
      rw [hX, hY] at hj
      refine nW j ?_
      rcases this with rfl | rfl | rfl | rfl | rfl | rfl | rfl | rfl | rfl <;> simpa [fv, Fc.cells] using hj
    · simp only [List.mem_cons, List.not_mem_nil, or_false] at he
      rcases he with rfl | rfl | rfl
      · exact oX
      · exact oY
      · exact oX
  have kB := bag_any W _ [X, Y, X] rF (by show 3 * 64 ≤ 160842843834660; decide)
  have eB : ones [X, Y, X] = [(xF, 1), (yF, 1), (xF, 1)] := by rw [hX, hY]; rfl
  rw [eB] at kB
  have HB : Hid (Below w.heap.size w W) := bW
  have HX : Hid (X.Ok W ∧ Y.Ok W ∧ X.ft = xF ∧ Y.ft = yF) := ⟨oX, oY, by rw [hX]; rfl, by rw [hY]; rfl⟩
  have HXV : Hid (X.t = 1 ∧ X.dv = .slice (some ⟨w.heap.size, 0, none⟩) 1 1 ∧ X.mv = .slice none 0 0 ∧ Y.t = 2 ∧ Y.dv = .slice none 0 0 ∧ Y.mv = .slice none 0 0) := by rw [hX, hY]; exact ⟨rfl, rfl, rfl, rfl, rfl, rfl⟩
  have HW : Hid _ := hW
  rw [hW] at kB
  have hbox : ∀ w5, Below W.heap.size W w5 → (w5.cell? ⟨w.heap.size + 1, 0, none⟩ = some (.int .i64 1) ∧ w5.cell? ⟨w.heap.size + 1, 1, none⟩ = some (.slice (some ⟨w.heap.size, 0, none⟩) 1 1) ∧ w5.cell? ⟨w.heap.size + 1, 2, none⟩ = some (.slice none 0 0)) ∧ w5.cell? ⟨w.heap.size + 2, 0, none⟩ = some (.int .i64 2) ∧ w5.cell? ⟨w.heap.size + 2, 1, none⟩ = some (.slice none 0 0) ∧ w5.cell? ⟨w.heap.size + 2, 2, none⟩ = some (.slice none 0 0) := fun w5 h5 => by
    have up : ∀ {a : Addr} {v : Value}, W.cell? a = some v → w5.cell? a = some v := fun {a v} h => by rw [h5.cell (World.block_lt_of_cell? _ _ h)]; exact h
    exact ⟨⟨up (up2 x0'), up (up2 x1'), up (up2 x2')⟩, up (up3 y0'), up (up3 y1'), up (up3 y2')⟩
  have HBX : Aside _ := hbox
  clear hbox hW hX hY oX oY rF eB bW zW nW sW up2 up3 x0' x1' x2' y0' y1' y2' s1 b1 b2 b3 z1 z2 z3
  go_enter Try.func9, Try.ntmps9
  go_wp2_with fail
  refine kB.mono ?_
  rintro e w1 ⟨v1, rfl, l1, om, _, hib, b1⟩
  rw [← HW.out] at b1 om
  clear kB
  have hrows := xy_rows hib
  have hlen : l1.length = 2 := by have : (rows l1).length = 2 := by rw [hrows]; rfl
                                  rwa [rows_length] at this
  have kN := count_any w1 v1 l1 om.ok
  have ht : totM (rows l1) = 3 := by rw [hrows]; decide +kernel
  rw [ht] at kN
  obtain ⟨aV, nV, cV, rfl⟩ := own_sl om.own
  obtain ⟨hn2, hc1, hc2, bb, off, rfl, hcell⟩ := om.ok.at (by omega)
  rw [hlen] at hn2
  subst hn2
  have n0 : (l1[0]'(by omega)).n = 2 := by
    have : (rows l1)[0]? = some (xF, 2) := by rw [hrows]; rfl
    simp only [rows, List.getElem?_map, List.getElem?_eq_getElem (show 0 < l1.length by omega), Option.map_some, Option.some.injEq] at this
    exact (Prod.mk.inj this).2
  have n1 : (l1[1]'(by omega)).n = 1 := by
    have : (rows l1)[1]? = some (yF, 1) := by rw [hrows]; rfl
    simp only [rows, List.getElem?_map, List.getElem?_eq_getElem (show 1 < l1.length by omega), Option.map_some, Option.some.injEq] at this
    exact (Prod.mk.inj this).2
  have c0 := (hcell 0 (by omega)).2.2.2
  have c1 := (hcell 1 (by omega)).2.2.2
  rw [n0] at c0
  rw [n1] at c1
  simp only [Nat.zero_mul, Nat.one_mul, Nat.add_zero] at c0 c1
  have h4 := HXV.out
  obtain ⟨oX, oY, fX, fY⟩ := HX.out
  have hc63 : cV ≤ 9223372036854775807 := by unfold maxLen at hc2; omega
  obtain ⟨⟨x0, x1, x2⟩, y0, y1, y2⟩ := HBX.out w1 b1
  have kK := compare_any w1 X Y (oX.below b1) (oY.below b1)
  unfold Fc.val at kK
  rw [fX, fY, xy_facts.1, h4.1, h4.2.1, h4.2.2.1, h4.2.2.2.1, h4.2.2.2.2.1, h4.2.2.2.2.2] at kK
  have HN : Hid (RdsM w1 (.slice (some ⟨bb, off, none⟩) 2 cV) l1 ∧ totM (rows l1) = 3) := ⟨om.ok, ht⟩
  have HB1 : Hid (Below W.heap.size W w1) := b1
  clear kN om hcell n0 n1 hrows ht hlen hib oX oY fX fY h4 hc2 b1
  go_wp2_with fail
  refine kK.mono ?_
  rintro e w2 ⟨rfl, g2⟩
  have b2 := g2.below
  have d0 := c0
  have d1 := c1
  rw [← b2.cell (World.block_lt_of_cell? _ _ c0)] at d0
  rw [← b2.cell (World.block_lt_of_cell? _ _ c1)] at d1
  have bW2 : Below W.heap.size W w2 := HB1.out.trans (b2.mono HB1.out.size)
  have kN := count_any w2 _ l1 (HN.out.1.below b2)
  rw [HN.out.2] at kN
  have HB2 : Hid (Below W.heap.size W w2) := bW2
  clear kK c0 c1 g2 b2 bW2 x0 x1 x2 y0 y1 y2
  go_wp2_with fail
  refine kN.mono ?_
  rintro e w3 ⟨rfl, b3⟩
  have bW3 : Below W.heap.size W w3 := HB2.out.trans (b3.mono HB2.out.size)
  obtain ⟨⟨x0, x1, x2⟩, y0, y1, y2⟩ := HBX.out w3 bW3
  have h4 := HXV.out
  have kC := check_any w3 1 0 X (HX.out.1.below bW3)
  rw [HX.out.2.2.1, xy_facts.2.1, h4.1, h4.2.1, h4.2.2.1] at kC
  have HB3 : Hid (Below W.heap.size W w3) := bW3
  clear kN b3 bW3 h4 d0 d1
  go_wp2_with fail
  refine kC.mono ?_
  rintro e w4 ⟨rfl, b4⟩
  have bW4 : Below W.heap.size W w4 := HB3.out.trans (b4.mono HB3.out.size)
  clear x0 x1 x2 y0 y1 y2
  obtain ⟨⟨x0, x1, x2⟩, y0, y1, y2⟩ := HBX.out w4 bW4
  have h4 := HXV.out
  have kD := check_any w4 0 0 X (HX.out.1.below bW4)
  rw [HX.out.2.2.1, xy_facts.2.2, h4.1, h4.2.1, h4.2.2.1] at kD
  have HB4 : Hid (Below W.heap.size W w4) := bW4
  clear kC b4 bW4 h4
  go_wp2_with fail
  refine kD.mono ?_
  rintro e w5 ⟨rfl, b5⟩
  have bW5 : Below W.heap.size W w5 := HB4.out.trans (b5.mono HB4.out.size)
  have HB5 : Hid (Below w.heap.size w w5) := HB.out.trans (bW5.mono HB.out.size)
  clear kD b5 bW5
  go_wp2_with fail
  go_ret
  exact ⟨rfl, HB5.out⟩
end Go.Proofs.Ytgdeongeonhlpaa
