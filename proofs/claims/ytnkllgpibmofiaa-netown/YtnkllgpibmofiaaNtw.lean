/- Twice, of one that is there. -/
import Derived.Test.YtnkllgpibmofiaaNtl
namespace Go.Proofs.Ytnkllgpibmofiaa
open Go.RowKit Go.Maps Go.Sort
set_option linter.unusedVariables false

set_option maxRecDepth 20000 in
set_option maxHeartbeats 4000000 in
theorem twice_any (w : World) (n sent : Nat) (F : Nat → Prop) (v : Value) (Z : List Gm) (i : Nat) (h : NtZ w n F sent v Z) (hi : i < Z.length) (hz : Z.length ≤ 1000000) :
    Calls Try.prog 17 #[.pointer (some ⟨n, 0, none⟩), .int .i64 (i : Int)] w fun e w' => e = .returned (.bool true) ∧ ∃ F' v', NtZ w' n F' sent v' (Z ++ [Z[i]]) ∧ Fr F w w' ∧ (∀ i, F' i → F i ∨ w.heap.size ≤ i) := by
  obtain ⟨b, c, hv, hc1, hc2, hcell⟩ := h.cellp i hi
  have c1 : w.cell? ⟨n, 1, none⟩ = some v := h.b.cell 1 _ rfl
  have kH := has_net w n sent F v Z h i (by omega)
  have hdz : decide (0 ≤ (i : Int) ∧ (i : Int) < (Z.length : Int)) = true := by simp; omega
  rw [hdz] at kH
  obtain ⟨i0, hi0, hz0, hz1, hz2⟩ := info_parts Try.info_pm
  obtain ⟨x, hx⟩ : ∃ x, x = Z[i].1 := ⟨_, rfl⟩
  rw [← hx] at hcell
  obtain ⟨m, hm⟩ : ∃ m, m = Z.length := ⟨_, rfl⟩
  rw [← hm] at hv hc1 hz
  rw [hv] at c1
  have H := hide h
  have HV := hide hv
  have HM := hide hm
  have HX := hide hx
  have hB : Below w.heap.size w (w.alloc (.cells #[.pointer (some ⟨x, 0, none⟩)] 91)) := (Below.refl _ _).alloc (Nat.le_refl _) _
  have HD : Hid (RowKit.Below w.heap.size w (w.alloc (.cells #[.pointer (some ⟨x, 0, none⟩)] 91)).drew) := hB.drew
  have HN : Hid (NtZ (w.alloc (.cells #[.pointer (some ⟨x, 0, none⟩)] 91)).drew n F sent v Z) := h.below HD.out
  have HLO : Hid ((w.alloc (.cells #[.pointer (some ⟨x, 0, none⟩)] 91)).drew.ownsRow 0 91 1 (.slice (some ⟨b, 0, none⟩) m c) m (pvs Z)) := by apply hide; have := HN.out.o; rw [hv, ← hm] at this; exact this
  have HRX : Hid (RdsK 1 (w.alloc (.cells #[.pointer (some ⟨x, 0, none⟩)] 91)).drew (.slice (some ⟨w.heap.size, 0, none⟩) 1 1) 1 [.pointer (some ⟨x, 0, none⟩)]) := hide (lit1p w _)
  have a1 : (w.alloc (.cells #[.pointer (some ⟨x, 0, none⟩)] 91)).cell? ⟨n, 1, none⟩ = some (.slice (some ⟨b, 0, none⟩) m c) := by rw [hB.cell (World.block_lt_of_cell? _ _ c1)]; exact c1
  have a2 : (w.alloc (.cells #[.pointer (some ⟨x, 0, none⟩)] 91)).cell? ⟨b, i, none⟩ = some (.pointer (some ⟨x, 0, none⟩)) := by rw [hB.cell (World.block_lt_of_cell? _ _ hcell)]; exact hcell
  have HQ : Hid (m + 1 ≤ maxLen ∧ ((m + 1) + (m + 1) / 4 + 192) * 8 ≤ 281474976710656) := by apply hide; unfold maxLen; omega
  have him : (i : Int) < (m : Int) := by omega
  have HI := hide hi
  unfold maxLen at hc2
  clear h hdz hv hm hx hB
  go_enter Try.func17, Try.ntmps17
  go_wp2_with (go_at_call 36; refine kH.mono ?_; rintro e w1 ⟨he1, hw1⟩; have hw1 := hw1.symm; subst he1; subst hw1)
  go_region_law (refine step_appN rfl (.tmp 13) (.tmp 21) 87 rfl 0 91 i0 _ 1 8 Try.underlying87 hi0 hz0 hz1 hz2 rfl (by decide) (.slice (some ⟨b, 0, none⟩) m c) m (pvs Z) rfl HLO.out (.slice (some ⟨w.heap.size, 0, none⟩) 1 1) 1 [.pointer (some ⟨x, 0, none⟩)] rfl HRX.out (fun u hu => by simp only [List.mem_cons, List.not_mem_nil, or_false] at hu; subst hu; rfl) HQ.out.1 HQ.out.2 (Nat.zero_le _) ?_; intro v4 w4 o4 g4 p4; obtain ⟨a4, c4, hx4⟩ := own_sl o4; subst hx4; have HO4 := hide o4; have HG4 := hide g4; have HP4 := hide p4; have hn4 : BxA w4 n 89 #[.int .u64 (sent : Int), v] := bx_grown2 HN.out.b g4 (own_ne_bx HLO.out HN.out.b (by decide)); have HN4 := hide hn4; have q1 := hn4.cell 1 _ rfl; have qf := hn4.free 1; clear o4 g4 p4 hn4)
  all_goals
    go_wp2_with fail
    go_ret
    have hne : (Value.ownBlock (.slice a4 (m + 1) c4)) ≠ some n := fun e => own_ne_bx HO4.out HN4.out (by decide) e.symm
    have hfw : Fr (NBk n v) w w4 := (Fr.of_below (F := NBk n v) HD.out).trans (Fr.of_grown (F := NBk n v) HG4.out fun j hj => .inl (.inr (by rw [HV.out]; exact hj))) fun _ _ h => h
    have hfr2 : Fr (NBk n v) w (w4.setCell ⟨n, 1, none⟩ (.slice a4 (m + 1) c4)) := hfw.trans (Fr.of_grown (F := NBk n v) grown_setCell fun j hj => .inl (by cases hj; exact .inl rfl)) fun _ _ h => h
    refine ⟨rfl, fun i => F i ∨ Value.ownBlock (.slice a4 (m + 1) c4) = some i, .slice a4 (m + 1) c4, ⟨HN4.out.set 1 _, .inl H.out.f, ?_, fun r hr => .inr hr, fun y hy => ?_, fun j hj => ?_⟩, ?_, ?_⟩
    · have := ownsRow_setCell_other HO4.out (a := ⟨n, 1, none⟩) hne (.slice a4 (m + 1) c4)
      rw [List.length_append, List.length_singleton, ← HM.out, pvs_append, show pvs [Z[i]'HI.out] = [.pointer (some ⟨x, 0, none⟩)] by rw [HX.out]; rfl]
      exact this
    · have hyz : y ∈ Z := by
        rcases List.mem_append.1 hy with hy | hy
        · exact hy
        · simp only [List.mem_cons, List.not_mem_nil, or_false] at hy; rw [hy]; exact List.getElem_mem _
      obtain ⟨e1, e2, e3⟩ := H.out.e y hyz
      refine ⟨?_, e2, .inl e3⟩
      unfold BxA at e1 ⊢
      rw [hfr2.block y.1 (Array.getElem?_eq_some_iff.1 e1).1 (H.out.box hyz)]
      exact e1
    · have := hfr2.size
      rcases hj with hj | hj
      · have := H.out.lt j hj; omega
      · have := (World.ownsRow.lt HO4.out j hj).2; simp; omega
    · exact ⟨hfr2.os, hfr2.tape, hfr2.output, hfr2.size, fun j hj hn => hfr2.block j hj fun hb => hn (H.out.bk j hb)⟩
    · intro j hj
      rcases hj with hj | hj
      · exact .inl hj
      · rcases HP4.out with e | ⟨b', e, hb⟩
        · left; exact H.out.fv j (by rw [HV.out, ← e]; exact hj)
        · right
          rw [e] at hj
          injection hj with hj
          have := HD.out.size
          omega
end Go.Proofs.Ytnkllgpibmofiaa
