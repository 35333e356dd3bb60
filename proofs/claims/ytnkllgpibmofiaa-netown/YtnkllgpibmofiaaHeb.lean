/- container/heap's up and down over a row of numbers. -/
import Derived.Test.YtnkllgpibmofiaaHea
namespace Go.Proofs.Ytnkllgpibmofiaa
open Go.RowKit
set_option linter.unusedVariables false

abbrev ifR (g : Nat) : Value := .iface 137 (.pointer (some ⟨g, 1, none⟩))
theorem mLess' {w : World} {g : Nat} {c0 v : Value} {l : List Nat} (h : Hb w g c0 v l) : (Go.method 298 137 (.pointer (some ⟨g, 1, none⟩)) "Less").run Try.prog w = .ok (114, v) w := (mLess _ _).trans (lens _ _ _ (h.b.cell 1 v rfl) _)
theorem mSwap' {w : World} {g : Nat} {c0 v : Value} {l : List Nat} (h : Hb w g c0 v l) : (Go.method 298 137 (.pointer (some ⟨g, 1, none⟩)) "Swap").run Try.prog w = .ok (115, v) w := (mSwap _ _).trans (lens _ _ _ (h.b.cell 1 v rfl) _)
theorem mLen' {w : World} {g : Nat} {c0 v : Value} {l : List Nat} (h : Hb w g c0 v l) : (Go.method 298 137 (.pointer (some ⟨g, 1, none⟩)) "Len").run Try.prog w = .ok (113, v) w := (mLen _ _).trans (lens _ _ _ (h.b.cell 1 v rfl) _)
theorem Hb.drewN {w : World} {g : Nat} {c0 v : Value} {l : List Nat} (h : Hb w g c0 v l) (n : Nat) : Hb (w.drewN n) g c0 v l := h.frame rfl fun _ _ => rfl
theorem Fr.drewN {F : Nat → Prop} {w w' : World} (h : Fr F w w') (n : Nat) : Fr F w (w'.drewN n) := ⟨h.os, h.tape, h.output, h.size, h.block⟩
theorem Hb.swapped {w w' : World} {g b n c : Nat} {c0 : Value} {l l' : List Nat} (h : Hb w g c0 (.slice (some ⟨b, 0, none⟩) n c) l) (ho : OwU w' (.slice (some ⟨b, 0, none⟩) n c) l') (hg : w.grownBy w' (some b)) : Hb w' g c0 (.slice (some ⟨b, 0, none⟩) n c) l' := by
  have hne := h.ne b rfl
  refine ⟨?_, ho⟩
  have := h.b
  unfold BxA at this ⊢
  rw [hg.block g h.b.lt (by simpa using fun e => hne e.symm)]
  exact this
set_option maxRecDepth 20000 in
set_option maxHeartbeats 2000000 in
theorem up_any (w : World) (g : Nat) (c0 v : Value) (l0 l : List Nat) (j : Nat) (h : Hb w g c0 v l) (hu : UpI l0 l j) (hs : l0.length ≤ 1000000) :
    Calls Try.prog 75 #[ifR g, .int .i64 (j : Int)] w fun e w' => e = .returned (.tuple #[]) ∧ ∃ l', Hb w' g c0 v l' ∧ Hp l' ∧ l'.Perm l0 ∧ Fr (fun i => v.ownBlock = some i) w w' := by
  have H := hide h
  have HU := hide hu
  clear h hu
  go_enter Try.func75, Try.ntmps75
  go_wp2_with fail
  go_loopg [1, 4] j (fun kx v1 _ wr => ∃ (i : Nat) (l' : List Nat), v1 = .int .i64 (i : Int) ∧ i ≤ kx ∧ Hid (Hb wr g c0 v l' ∧ UpI l0 l' i ∧ Fr (fun i => v.ownBlock = some i) w wr))
  case atStart => exact ⟨j, l, rfl, Nat.le_refl _, H.out, HU.out, Fr.refl _ _⟩
  case round =>
    obtain ⟨i, l', rfl, hkx, HI⟩ := hrel
    have hn5 : l'.length ≤ 1000000 := by rw [HI.out.2.1.p.length_eq]; exact hs
    have hil : i < l'.length := HI.out.2.1.lt
    obtain ⟨b, c, rfl, hlc, hcm, hbl⟩ : ∃ b c, v = .slice (some ⟨b, 0, none⟩) l'.length c ∧ l'.length ≤ c ∧ c ≤ maxLen ∧ b < wr.heap.size := by
      rcases HI.out.1.o.sh with ⟨_, e⟩ | h
      · rw [e] at hil; simp at hil
      · exact h
    by_cases h0 : i = 0
    · subst h0
      go_wp2_with fail
      go_end0
      exact ⟨rfl, l', HI.out.1, HI.out.2.1.done (.inl rfl), HI.out.2.1.p, HI.out.2.2⟩
    · obtain ⟨k, hk⟩ : ∃ k, k = (i - 1) / 2 := ⟨_, rfl⟩
      have hq : ((i : Int) - 1) / 2 = (k : Int) := by omega
      have hki : ¬ (k : Int) = (i : Int) := by omega
      have hkl : k < l'.length := by omega
      have mL := mLess' HI.out.1
      have kL := less_any wr b c l' HI.out.1.o hcm hlc i k hil hkl
      obtain ⟨p, hp⟩ : ∃ p, p = decide (gv l' i < gv l' k) := ⟨_, rfl⟩
      rw [← hp] at kL
      have HP := hide hp
      have HK := hide hk
      clear hp hk
      cases p with
      | false =>
        go_wp2_with (go_at_call 114; refine kL.mono ?_; rintro e w1 ⟨he1, nq, hw1⟩; subst he1; subst hw1)
        go_end0
        exact ⟨rfl, l', HI.out.1.drewN _, HI.out.2.1.done (.inr (by have h1 := HP.out; rw [HK.out] at h1; exact of_decide_eq_false h1.symm)), HI.out.2.1.p, HI.out.2.2.drewN _⟩
      | true =>
        go_wp2_with (go_at_call 114; refine kL.mono ?_; rintro e w1 ⟨he1, nq, hw1⟩; subst he1; have HW1 := hide hw1; have hH1 := HI.out.1.drewN nq; rw [← hw1] at hH1; have mS := mSwap' hH1; have kS := swap_any w1 b l'.length c l' hH1.o k i hkl hil; have HH1 := hide hH1; clear hH1 hw1)
        go_wp2_with (go_at_call 115; refine kS.mono ?_; rintro e w2 ⟨he2, ho2, hg2⟩; subst he2; have HO2 := hide ho2; have HG2 := hide hg2; clear ho2 hg2)
        go_roundg k
        case measure => have := HK.out; omega
        case rel =>
          have hlt : gv l' i < gv l' ((i - 1) / 2) := by have h1 := HP.out; rw [HK.out] at h1; exact of_decide_eq_true h1.symm
          refine ⟨k, swp l' k i, rfl, Nat.le_refl _, ?_, ?_, ?_⟩
          · exact HH1.out.swapped HO2.out HG2.out
          · rw [HK.out]; exact HI.out.2.1.step (by omega) hlt
          · rw [HW1.out] at HG2; exact (HI.out.2.2.drewN nq).trans (Fr.of_grown HG2.out fun j hj => .inl (by cases hj; rfl)) (fun _ _ h => h)
end Go.Proofs.Ytnkllgpibmofiaa
