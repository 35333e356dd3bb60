/- Contracts of From, Begin, Id. -/
import Derived.Test.YtfhldldcfdimhaaDict0
import Derived.Test.YtfhldldcfdimhaaShelf
import Derived.Test.YtfhldldcfdimhaaSearch
namespace Go.Proofs.Ytfhldldcfdimhaa
open Go.RowKit Go.Shelf Go.Sort

theorem countP_getD {α : Type} (f : α → Bool) (l : List α) (d : α) : (List.range l.length).countP (fun i => f (l.getD i d)) = l.countP f := by
  have e : l = (List.range l.length).map fun i => l.getD i d := by
    apply List.ext_getElem
    · simp
    · intro i h1 h2; simp [h1]
  conv => rhs; rw [e]
  rw [List.countP_map]
  rfl
set_option maxHeartbeats 800000 in
theorem from_closure (bd bs B b off n cap i : Nat) (t s : Str) (W : World) (hi : i < n) (hd : W.cell? ⟨bd, 0, none⟩ = some (.pointer (some ⟨B, 0, none⟩))) (hs : W.cell? ⟨bs, 0, none⟩ = some (.string ⟨s.toArray⟩))
    (hv : W.cell? ⟨B, 0, none⟩ = some (.slice (some ⟨b, off, none⟩) n cap)) (hc : W.cell? ⟨b, off + i, none⟩ = some (.string ⟨t.toArray⟩)) :
    Calls Try.prog 47 (#[.int .i64 i] ++ #[.pointer (some ⟨bd, 0, none⟩), .pointer (some ⟨bs, 0, none⟩)]) W fun e w' => e = .returned (.bool (!decide (t < s))) ∧ ∃ q, w' = W.drewN q := by
  have hiz : (i : Int) < (n : Int) := by omega
  rw [← bytesLess_eq]
  go_enter Try.func47, Try.ntmps47
  go_wp2
  go_quiet (fail)
  go_wp2
  go_ret
  exact ⟨rfl, _, rfl⟩

theorem ND.ptr {w : World} {p : Value} {ts : List Str} (h : ND w p ts) : ∃ a, p = .pointer a := by
  rcases h with ⟨h, _⟩ | h
  · exact ⟨_, h⟩
  · obtain ⟨B, v, h, _⟩ := h.ex; exact ⟨_, h⟩
set_option maxHeartbeats 1600000 in
theorem from_any (w : World) (p : Value) (ts : List Str) (s : Str) (h : ND w p ts) :
    Calls Try.prog 20 #[p, .string ⟨s.toArray⟩] w fun e w' => e = .returned (.int .i64 (frm ts s : Nat)) ∧ Below w.heap.size w w' := by
  obtain ⟨ap, rfl⟩ := h.ptr
  obtain ⟨p, hp⟩ : ∃ p, p = Value.pointer ap := ⟨_, rfl⟩
  rw [← hp] at h
  obtain ⟨W0, hW0⟩ : ∃ W0, W0 = (w.alloc (.cells #[p] 25)).alloc (.cells #[.string ⟨s.toArray⟩] 9) := ⟨_, rfl⟩
  have hsize : W0.heap.size = w.heap.size + 1 + 1 := by rw [hW0]; simp
  have hB0 : Below w.heap.size w W0 := by rw [hW0]; exact ((Below.refl _ w).alloc (Nat.le_refl _) _).alloc (by simp) _
  have cd : W0.cell? ⟨w.heap.size, 0, none⟩ = some p := by rw [hW0]; exact cell_alloc_sl _ (cell_new_sl w _ _)
  have cs : W0.cell? ⟨w.heap.size + 1, 0, none⟩ = some (.string ⟨s.toArray⟩) := by rw [hW0]; have := cell_new_sl (w.alloc (.cells #[p] 25)) (.string ⟨s.toArray⟩) 9; rwa [World.size_alloc] at this
  have hN := h.below hB0
  have hL := len_any W0 p ts hN
  have hle := h.le
  have eg : ∀ args w, (callFunc 47 args).run Try.prog w = .ok (.enter 47 args) w := enters_of Try.func47 (by kernel_rfl) rfl
  have hS := Any.sort_Search Try.laysSlO16 47 #[.pointer (some ⟨w.heap.size, 0, none⟩), .pointer (some ⟨w.heap.size + 1, 0, none⟩)] ts.length (fun i => !decide (ts.getD i [] < s)) W0 eg (by omega)
    (fun m os i hi => by
      obtain ⟨B, b, off, cap, rfl, h1, h2, h3, h4⟩ := hN.some (by omega)
      exact (from_closure w.heap.size (w.heap.size + 1) B b off ts.length cap i (ts.getD i []) s _ hi (cell_grown (by simp [hsize]; omega) cd m os) (cell_grown (by simp [hsize]) cs m os)
        (cell_grown (World.block_lt_of_cell? _ _ h1) h1 m os) (cell_grown (World.block_lt_of_cell? _ _ (h4 i hi)) (h4 i hi) m os)).mono fun _ _ ⟨he, q, hq⟩ => ⟨he, q, #[], by rw [hq, grow_empty]⟩)
    (fun a b hab hb ha => by
      have hr := h.ris
      simp only [Bool.not_eq_true', decide_eq_false_iff_not] at ha ⊢
      rw [getD_at (by omega), frm_iff hr s a (by omega)] at ha
      rw [getD_at hb, frm_iff hr s b hb]
      omega)
  change Calls Try.prog 44 _ _ _ at hS
  have hcnt : (List.range ts.length).countP (fun i => !(!decide (ts.getD i [] < s))) = frm ts s := by
    have := countP_getD (fun t => decide (t < s)) ts []
    simp only [Bool.not_not]
    exact this
  rw [hcnt] at hS
  clear cd cs hN hcnt h
  generalize frm ts s = r at hS ⊢
  generalize ts.length = n at *
  subst hp
  have HW := hide hW0
  clear hW0
  go_enter Try.func20, Try.ntmps20
  go_wp2_with fail
  rw [← unhide HW]
  refine hL.mono ?_
  rintro e w1 ⟨rfl, rfl⟩
  go_wp2_with fail
  refine hS.mono ?_
  rintro e w2 ⟨rfl, q, os, rfl⟩
  go_wp2_with fail
  go_ret
  exact ⟨rfl, hB0.trans (below_grown_sl _ _ q os (by omega))⟩
end Go.Proofs.Ytfhldldcfdimhaa
