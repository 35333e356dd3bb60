/- container/heap: Pop over a row of numbers. -/
import Derived.Test.YtnkllgpibmofiaaHee
namespace Go.Proofs.Ytnkllgpibmofiaa
open Go.RowKit
set_option linter.unusedVariables false

set_option maxRecDepth 20000 in
set_option maxHeartbeats 2000000 in
theorem hpop_any (w : World) (g : Nat) (c0 v : Value) (l : List Nat) (n : Nat) (h : Hb w g c0 v l) (hp : Hp l) (hn : l.length = n + 1) (hs : n ≤ 1000000) :
    Calls Try.prog 59 #[ifR g] w fun e w' => e = .returned (.iface 28 (.int .u64 (gv l 0 : Int))) ∧ ∃ v' l', Hb w' g c0 v' l' ∧ Hp l' ∧ (l' ++ [gv l 0]).Perm l ∧ Fr (fun i => i = g ∨ v.ownBlock = some i) w w' ∧ v'.ownBlock = v.ownBlock := by
  obtain ⟨b, c, rfl, hlc, hcm, hbl⟩ : ∃ b c, v = .slice (some ⟨b, 0, none⟩) (n + 1) c ∧ n + 1 ≤ c ∧ c ≤ maxLen ∧ b < w.heap.size := by
    rcases h.o.sh with ⟨_, e⟩ | ⟨b, c, h1, h2, h3, h4⟩
    · rw [e] at hn; simp at hn
    · rw [hn] at h1 h2; exact ⟨b, c, h1, h2, h3, h4⟩
  have mL := mLen' h
  have mS := mSwap' h
  have kS := swap_any w b (n + 1) c l h.o 0 n (by omega) (by omega)
  have H := hide h
  have HHP := hide hp
  have HN := hide hn
  have mP := mPop (.pointer (some ⟨g, 1, none⟩))
  clear h hp hn
  go_enter Try.func59, Try.ntmps59
  go_wp2_with (first | (go_at_call 113; refine (len_any _ _ _ _).mono ?_; rintro e w1 ⟨rfl, hw1⟩; have hw1 := hw1.symm; subst hw1) | (go_at_call 115; refine kS.mono ?_; rintro e w2 ⟨he2, ho2, hg2⟩; subst he2; have HO2 := hide ho2; have HG2 := hide hg2; have HH2 := hide (H.out.swapped ho2 hg2); clear ho2 hg2) | (go_at_call 76; refine (down_any _ _ _ _ _ _ n HH2.out (DnI.start HHP.out HN.out) (by rw [swp_length]; exact HN.out) hs).mono ?_; rintro e w3 ⟨⟨bb, he3⟩, l3, i3, h3, hp3, dn3, fr3⟩; subst he3; have H3 := hide h3; have HP3 := hide hp3; have DN3 := hide dn3; have FR3 := hide fr3; clear h3 hp3 dn3 fr3) | (go_at_call 116; refine (popm_any _ _ _ _ _ n H3.out (by rw [DN3.out.p.length_eq, swp_length]; exact HN.out) hs).mono ?_; rintro e w4 ⟨he4, v4, h4, fr4, b4⟩; subst he4; have H4 := hide h4; have FR4 := hide fr4; have B4 := hide b4; have HE4 : Hid (gv l3 n = gv l 0) := (by apply hide; rw [DN3.out.tl n (Nat.le_refl _), gv_swp (by have := HN.out; omega) (by have := HN.out; omega), if_pos rfl]); rw [HE4.out]; clear h4 fr4 b4))
  go_ret
  have hgl : l3.length = n + 1 := by rw [DN3.out.p.length_eq, swp_length]; exact HN.out
  refine ⟨rfl, v4, l3.take n, H4.out, take_hp HP3.out (by omega), pop_perm HN.out DN3.out, ?_, B4.out⟩
  have g1 : Fr (fun i => i = g ∨ Value.ownBlock (.slice (some ⟨b, 0, none⟩) (n + 1) c) = some i) w w2 := Fr.of_grown HG2.out fun j hj => .inl (.inr hj)
  exact (g1.trans FR3.out fun i _ h => .inr h).trans FR4.out fun i _ h => .inl h
end Go.Proofs.Ytnkllgpibmofiaa
