/- Lose, Twice, of one that is there. -/
import Derived.Test.YtnkllgpibmofiaaNtp
namespace Go.Proofs.Ytnkllgpibmofiaa
open Go.RowKit Go.Maps Go.Sort
set_option linter.unusedVariables false

def NBk (n : Nat) (v : Value) (j : Nat) : Prop := j = n ∨ v.ownBlock = some j
theorem NtZ.bk {w : World} {n sent : Nat} {F : Nat → Prop} {v : Value} {Z : List Gm} (h : NtZ w n F sent v Z) : ∀ j, NBk n v j → F j := fun j hj => by
  rcases hj with rfl | hj
  · exact h.f
  · exact h.fv j hj
/-- Its messages' boxes are neither its own one nor its row's. -/
theorem NtZ.box {w : World} {n sent : Nat} {F : Nat → Prop} {v : Value} {Z : List Gm} (h : NtZ w n F sent v Z) {x : Gm} (hx : x ∈ Z) : ¬ NBk n v x.1 := fun hb => by
  obtain ⟨e1, _, _⟩ := h.e x hx
  rcases hb with e | e
  · have hd : w.heap[n]? = _ := h.b
    have hx : w.heap[x.1]? = _ := e1
    rw [e, hd] at hx
    simp only [Option.some.injEq, Obj.cells.injEq] at hx
    exact absurd hx.2.1 (by decide)
  · exact own_ne_bx h.o e1 (by decide) e.symm
theorem NtZ.vn {w : World} {n sent : Nat} {F : Nat → Prop} {v : Value} {Z : List Gm} (h : NtZ w n F sent v Z) : v.ownBlock ≠ some n := fun e => own_ne_bx h.o h.b (by decide) e.symm
set_option maxRecDepth 20000 in
set_option maxHeartbeats 4000000 in
theorem lose_any (w : World) (n sent : Nat) (F : Nat → Prop) (v : Value) (Z : List Gm) (i : Nat) (h : NtZ w n F sent v Z) (hi : i < Z.length) (hz : Z.length ≤ 1000000) :
    Calls Try.prog 15 #[.pointer (some ⟨n, 0, none⟩), .int .i64 (i : Int)] w fun e w' => e = .returned (.bool true) ∧ ∃ v', NtZ w' n F sent v' (Z.eraseIdx i) ∧ Fr (NBk n v) w w' ∧ v'.ownBlock = v.ownBlock := by
  obtain ⟨b, c, hv, hc1, hc2, hcell⟩ := h.cellp i hi
  have c1 : w.cell? ⟨n, 1, none⟩ = some v := h.b.cell 1 _ rfl
  have kH := has_net w n sent F v Z h i (by omega)
  have hdz : decide (0 ≤ (i : Int) ∧ (i : Int) < (Z.length : Int)) = true := by simp; omega
  rw [hdz] at kH
  obtain ⟨m, hm⟩ : ∃ m, Z.length = m + 1 := ⟨Z.length - 1, by omega⟩
  have ho := h.o
  rw [hv, hm] at ho
  have kD := del_any w b c m i (pvs Z) ho (pvs_one Z) (by omega) (by omega)
  rw [hv, hm] at c1
  rw [hm] at hz hc1
  have H := hide h
  have HV := hide hv
  have HM := hide hm
  have HLEN : Hid ((Z.eraseIdx i).length = m) := by apply hide; rw [List.length_eraseIdx, if_pos hi]; omega
  have HW1 : Hid (wrap64 ((i : Int) + 1) = (i : Int) + 1) := by apply hide; rw [← IntWalk.i64_left, IntKind.wrap_i64]; omega
  have hiz : (i : Int) < 1000001 := by omega
  have hvn := h.vn
  have HVN := hide hvn
  clear h hcell hdz ho hv hm hi hvn
  go_enter Try.func15, Try.ntmps15
  go_wp2_with (first
    | (go_at_call 36; refine kH.mono ?_; rintro e w1 ⟨he1, hw1⟩; have hw1 := hw1.symm; subst he1; subst hw1)
    | (go_at_call 37; refine kD.mono ?_; rintro e w2 ⟨he2, ho2, hg2⟩; subst he2; have HO2 := hide ho2; have HG2 := hide hg2; have hn2 : BxA w2 n 89 #[.int .u64 (sent : Int), v] := bx_grown2 H.out.b hg2 (fun e => HVN.out (by rw [HV.out]; exact e.symm)); have HN2 := hide hn2; have d1 := hn2.cell 1 _ rfl; have df := hn2.free 1; clear ho2 hg2 hn2))
  go_ret
  have hfr : Fr (NBk n v) w w2 := Fr.of_grown HG2.out fun j hj => .inl (.inr (by rw [HV.out]; exact hj))
  have hfr2 : Fr (NBk n v) w (w2.setCell ⟨n, 1, none⟩ (.slice (some ⟨b, 0, none⟩) m c)) := hfr.trans (Fr.of_grown (F := NBk n v) grown_setCell fun j hj => .inl (by cases hj; exact .inl rfl)) fun _ _ h => h
  refine ⟨rfl, .slice (some ⟨b, 0, none⟩) m c, ⟨HN2.out.set 1 _, H.out.f, ?_, fun r hr => H.out.fv r (by rw [HV.out]; exact hr), fun x hx => ?_, fun j hj => ?_⟩, hfr2, by rw [HV.out]; rfl⟩
  · have := ownsRow_setCell_other HO2.out (a := ⟨n, 1, none⟩) (fun e => HVN.out (by rw [HV.out]; exact e)) (.slice (some ⟨b, 0, none⟩) m c)
    rw [HLEN.out, pvs_erase]
    exact this
  · have hxz := List.mem_of_mem_eraseIdx hx
    obtain ⟨e1, e2, e3⟩ := H.out.e x hxz
    refine ⟨?_, e2, e3⟩
    unfold BxA at e1 ⊢
    rw [hfr2.block x.1 (Array.getElem?_eq_some_iff.1 e1).1 (H.out.box hxz)]
    exact e1
  · have := H.out.lt j hj
    have := hfr2.size
    omega
end Go.Proofs.Ytnkllgpibmofiaa
