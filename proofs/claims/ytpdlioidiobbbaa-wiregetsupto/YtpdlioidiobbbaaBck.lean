/- The walk of WireBack. -/
import Derived.Test.YtpdlioidiobbbaaOne
namespace Go.Proofs.Ytpdlioidiobbbaa
open Go.RowKit Go.Sort

theorem BxA.up {w w' : World} {g : Nat} {t : TypeId} {cs : Array Value} (h : BxA w g t cs) (b : Below w.heap.size w w') : BxA w' g t cs := by
  unfold BxA at h ⊢
  rw [b.block g (Array.getElem?_eq_some_iff.1 h).1]
  exact h
/-- A guarded load of a whole struct. -/
theorem wpList_load_rowG {P : Program} {ops : Array Oper} {rest : List Oper} {o : Oper} {a : Act} {w : World} {Q : Exit → Act → World → Prop} (ty : TypeId) (x : Operand) (ho : o.op = .load ty x)
    (g : Nat) (hx : a.eval x = .pointer (some ⟨g, 0, none⟩)) (t : TypeId) (cs : Array Value) (fr : Nat × Nat) (d : TypeDesc) (hg : w.heap[g]? = some (.cells cs t fr))
    (hu : P.underlying ty = some d) (hd : (match d with | .struct _ | .array _ _ => true | _ => false) = true) (hi : (P.info? ty).map (·.size) = some cs.size)
    (hw : Region.wanted o (yielded ops a.tmps) = true)
    (h : wpList P ops Q rest (a.put o.dst (.agg cs)) w) : wpList P ops Q (o :: rest) a w :=
  wpList_step fun K hK => by
    rw [if_pos hw]
    exact wp_load_row ty x ho g hx t cs fr d hg hu hd hi (hK _ _ h)
theorem rres_some {m : Mm} {b : Bs} (h : rres m = some b) : e_fil 20 m.q.t ≠ none ∧ r_msg m = b ∧ b.length ≤ 1048576 := by
  unfold rres at h
  by_cases h1 : e_fil 20 m.q.t = none
  · rw [if_pos h1] at h; cases h
  · rw [if_neg h1] at h
    by_cases h2 : (r_msg m).length ≤ 1048576
    · rw [if_pos h2] at h
      have e := Option.some.inj h
      exact ⟨h1, e, e ▸ h2⟩
    · rw [if_neg h2] at h; cases h
set_option maxRecDepth 100000 in
set_option maxHeartbeats 3200000 in
theorem same_two (w : World) (m n : Mm) (b : Bs) (hm : m.Ok w) (hn : n.Ok w) (h1 : rres m = some b) (h2 : rres n = some b) :
    Calls Try.prog 13 #[.agg (mcells m), .agg (mcells n)] w fun e w' => e = .returned (.bool true) ∧ Below w.heap.size w w' := by
  obtain ⟨W, hW⟩ : ∃ W, W = (w.alloc (.cells (mcells m) 46)).alloc (.cells (mcells n) 46) := ⟨_, rfl⟩
  have bW : Below w.heap.size w W := by rw [hW]; exact ((Below.refl _ _).alloc (Nat.le_refl _) _).alloc (by simp) _
  have xm : BxA W w.heap.size 46 (mcells m) := by rw [hW]; unfold BxA; rw [Below.heap_alloc _ _ _ (by simp)]; exact BxA.new _ _ _
  have xn : BxA W (w.heap.size + 1) 46 (mcells n) := by
    rw [hW]
    have := BxA.new (w.alloc (.cells (mcells m) 46)) 46 (mcells n)
    simpa [BxA] using this
  have hl1 : (r_msg m).length ≤ 1073741824 := by have := rres_some h1; rw [this.2.1]; exact Nat.le_trans this.2.2 (by decide)
  have hl2 : (r_msg n).length ≤ 1073741824 := by have := rres_some h2; rw [this.2.1]; exact Nat.le_trans this.2.2 (by decide)
  have k1 : Calls Try.prog 10 #[.agg (mcells m)] W (Puts W (rres m)) := rput W m (hm.up bW) hl1
  have k2 : ∀ w', Below w.heap.size w w' → Calls Try.prog 10 #[.agg (mcells n)] w' (Puts w' (rres n)) := fun w' h => rput w' n (hn.up h) hl2
  rw [h1] at k1
  have K2 : Aside (∀ w', Below w.heap.size w w' → Calls Try.prog 10 #[.agg (mcells n)] w' (Puts w' (some b))) := fun w' h => by have := k2 w' h; rw [h2] at this; exact this
  have HW : Hid (W = _) := hW
  have HX : Hid _ := And.intro xm xn
  have HB : Hid (Below w.heap.size w W) := bW
  clear hW xm xn bW k2 hm hn h1 h2 hl1 hl2
  go_enter Try.func13, Try.ntmps13
  go_upto_region 1 with fail
  rw [← HW.out]
  go_wp2_with (first | (refine wpList_load_row rfl 46 _ rfl w.heap.size rfl 46 _ (0, 0) _ HX.out.1 Try.underlying46 rfl (mcells_info m) ?_))
  refine k1.mono ?_
  rintro e w2 ⟨b2, hr2⟩
  rcases hr2 with ⟨hn, -⟩ | ⟨c, v, hn, rfl, ho⟩
  · cases hn
  obtain rfl : b = c := Option.some.inj hn
  have HB2 : Hid (Below w.heap.size w w2) := HB.out.trans (b2.mono HB.out.size)
  have HX2 : Hid (BxA w2 (w.heap.size + 1) 46 (mcells n)) := HX.out.2.up b2
  have HO : Hid (Owns w2 W.heap.size v b) := ho
  obtain ⟨va, vc, rfl⟩ := ho.shape b.length rfl
  have kk := K2.out w2 HB2.out
  clear k1 b2 hn ho
  go_wp2_with (first | (refine wpList_load_row rfl 46 _ rfl (w.heap.size + 1) rfl 46 _ (0, 0) _ HX2.out Try.underlying46 rfl (mcells_info n) ?_))
  refine kk.mono ?_
  rintro e w3 ⟨b3, hr3⟩
  rcases hr3 with ⟨hn, -⟩ | ⟨c, v3, hn, rfl, ho3⟩
  · cases hn
  obtain rfl : b = c := Option.some.inj hn
  have HB3 : Hid (Below w.heap.size w w3) := HB2.out.trans (b3.mono HB2.out.size)
  have hc1 := conv_string w3 _ _ (HO.out.reads.below b3)
  have hc2 := conv_string w3 _ _ ho3.reads
  obtain ⟨v3a, v3c, rfl⟩ := ho3.shape b.length rfl
  clear b3 ho3 hn kk
  go_wp2_with fail
  go_ret
  exact ⟨by simp, HB3.out⟩
end Go.Proofs.Ytpdlioidiobbbaa
