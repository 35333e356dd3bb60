/- container/heap's Push over a row of numbers. -/
import Derived.Test.YtnkllgpibmofiaaHeb
import Derived.Test.YtnkllgpibmofiaaStepN
import Derived.Deep.CutBlock
namespace Go.Proofs.Ytnkllgpibmofiaa
open Go.RowKit
set_option linter.unusedVariables false

theorem Try.info_u64 : (Try.prog.info? 28).map (fun i => (i.zero, i.size, i.bytes)) = some (some (.int .u64 0), 1, 8) := by kernel_rfl
theorem asU (x : Nat) (w : World) : (Instr.typeAssert (.iface 28 (.int .u64 (x : Int))) 20 28 false).run Try.prog w = .ok (.int .u64 (x : Int)) w := by kernel_rfl
theorem lit1 (w : World) (u : Value) : RdsK 1 (w.alloc (.cells #[u] 28)).drew (.slice (some ⟨w.heap.size, 0, none⟩) 1 1) 1 [u] := by
  refine ⟨some ⟨w.heap.size, 0, none⟩, 1, rfl, by simp, Nat.le_refl _, by decide, (fun h => by cases h), ?_⟩
  rintro ad ⟨rfl⟩
  intro j v hj
  have hj0 : j = 0 := by
    cases j with
    | zero => rfl
    | succ j => simp at hj
  subst hj0
  simp only [List.getElem?_cons_zero, Option.some.injEq] at hj
  subst hj
  have hb : BxA (w.alloc (.cells #[u] 28)) w.heap.size 28 #[u] := BxA.new _ _ _
  exact hb.cell 0 u rfl
set_option maxRecDepth 20000 in
set_option maxHeartbeats 2000000 in
theorem push_any (w : World) (g : Nat) (c0 v : Value) (l : List Nat) (x : Nat) (h : Hb w g c0 v l) (hs : l.length ≤ 1000000) :
    Calls Try.prog 117 #[.pointer (some ⟨g, 1, none⟩), .iface 28 (.int .u64 (x : Int))] w fun e w' => e = .returned (.tuple #[]) ∧ ∃ v', Hb w' g c0 v' (l ++ [x]) ∧ Fr (fun i => i = g ∨ v.ownBlock = some i) w w' ∧ (v'.ownBlock = v.ownBlock ∨ ∃ b, v'.ownBlock = some b ∧ w.heap.size ≤ b) := by
  obtain ⟨i0, hi0, hz0, hz1, hz2⟩ := info_parts Try.info_u64
  have hx := asU x
  have c1 := h.b.cell 1 _ rfl
  have f1 := h.b.free 1
  have H := hide h
  obtain ⟨a, n, c, rfl⟩ : ∃ a n c, v = .slice a n c := by obtain ⟨a, c, e⟩ := own_sl h.o; exact ⟨a, _, c, e⟩
  have hn : n = l.length := by
    obtain ⟨a', c', e⟩ := own_sl h.o
    cases e; rfl
  have HN := hide hn
  have HU1 : Hid (uv (l ++ [x]) = uv l ++ [.int .u64 (x : Int)]) := by apply hide; rw [uv_append]; rfl
  have HD : Hid (RowKit.Below w.heap.size w (w.alloc (.cells #[.int .u64 (x : Int)] 28)).drew) := ((Below.refl _ _).alloc (Nat.le_refl _) _).drew
  have HHD : Hid (Hb (w.alloc (.cells #[.int .u64 (x : Int)] 28)).drew g c0 (.slice a n c) l) := h.frame (HD.out.block g h.b.lt) fun r hr => HD.out.block r (World.ownsRow.lt h.o r hr).2
  have HLO : Hid ((w.alloc (.cells #[.int .u64 (x : Int)] 28)).drew.ownsRow 0 28 1 (.slice a n c) n (uv l)) := by apply hide; have := HHD.out.o; unfold OwU at this; rw [hn]; rw [hn] at this; exact this
  have HRX : Hid _ := lit1 w (.int .u64 (x : Int))
  have a1 : (w.alloc (.cells #[.int .u64 (x : Int)] 28)).cell? ⟨g, 1, none⟩ = some (.slice a n c) := HHD.out.b.cell 1 _ rfl
  have HQ : Hid (n + 1 ≤ maxLen ∧ ((n + 1) + (n + 1) / 4 + 192) * 8 ≤ 281474976710656) := by apply hide; unfold maxLen; omega
  have hn5 : n ≤ 1000000 := by omega
  clear h hn
  go_enter Try.func117, Try.ntmps117
  go_wp2
  go_region_law (refine step_appN rfl (.tmp 7) (.tmp 10) 102 rfl 0 28 i0 _ 1 8 Try.underlying102 hi0 hz0 hz1 hz2 rfl (by decide) (.slice a n c) n (uv l) rfl HLO.out (.slice (some ⟨w.heap.size, 0, none⟩) 1 1) 1 [.int .u64 (x : Int)] rfl HRX.out (fun u hu => by simp only [List.mem_cons, List.not_mem_nil, or_false] at hu; subst hu; rfl) HQ.out.1 HQ.out.2 (Nat.zero_le _) ?_; intro v4 w4 o4 g4 p4; obtain ⟨a4, c4, hx4⟩ := own_sl o4; subst hx4; have HO4 := hide o4; have HG4 := hide g4; have HP4 := hide p4; have hB4 : BxA w4 g 104 #[c0, .slice a n c] := (by have := HHD.out.b; unfold BxA at this ⊢; rw [g4.block g HHD.out.b.lt (fun e => HHD.out.ne g e.symm rfl)]; exact this); have HB4 := hide hB4; have k1 := hB4.cell 1 _ rfl; have kf := hB4.free 1; clear o4 g4 p4 hB4)
  all_goals
    go_wp2_with fail
    go_end0
    refine ⟨rfl, .slice a4 (n + 1) c4, ⟨HB4.out.set 1 _, ?_⟩, ?_, ?_⟩
    · have hne : ∀ r, Value.ownBlock (.slice a4 (n + 1) c4) = some r → r ≠ g := fun r hr e => by
        have hd : w4.heap[g]? = _ := HB4.out
        rcases HO4.out.2 with ⟨h1, _⟩ | ⟨g', cap, cur, h1, _, h3, _⟩
        · rw [h1] at hr; cases hr
        · rw [h1] at hr
          simp only [Value.ownBlock, Option.some.injEq] at hr
          rw [← hr] at e
          rw [e, hd] at h3
          simp only [Option.some.injEq, Obj.cells.injEq] at h3
          exact absurd h3.2.1 (by decide)
      have := ownsRow_setCell_other HO4.out (a := ⟨g, 1, none⟩) (fun e => hne g e rfl) (.slice a4 (n + 1) c4)
      unfold OwU
      rw [HU1.out, List.length_append, List.length_singleton, ← HN.out]
      exact this
    · have f1 : Fr (fun i => i = g ∨ Value.ownBlock (.slice a n c) = some i) w w4 := (Fr.of_below HD.out).trans (Fr.of_grown (F := fun i => i = g ∨ Value.ownBlock (.slice a n c) = some i) HG4.out fun j hj => .inl (.inr hj)) fun _ _ h => h
      exact f1.trans (Fr.of_grown grown_setCell fun j hj => .inl (by cases hj; exact .inl rfl)) fun _ _ h => h
    · rcases HP4.out with e | ⟨b, e, hb⟩
      · exact .inl e
      · exact .inr ⟨b, e, Nat.le_trans HD.out.size hb⟩
end Go.Proofs.Ytnkllgpibmofiaa
