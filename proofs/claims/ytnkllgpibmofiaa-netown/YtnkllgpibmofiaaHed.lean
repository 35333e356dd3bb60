/- container/heap: down, Push, Pop over a row of numbers. -/
import Derived.Test.YtnkllgpibmofiaaHec
namespace Go.Proofs.Ytnkllgpibmofiaa
open Go.RowKit
set_option linter.unusedVariables false

theorem OwU.cut {w : World} {b c n : Nat} {l : List Nat} (h : OwU w (.slice (some ⟨b, 0, none⟩) l.length c) l) (hn : n ≤ l.length) : OwU w (.slice (some ⟨b, 0, none⟩) n c) (l.take n) := by
  rcases h.2 with ⟨h1, _⟩ | ⟨g', cap, cur, h1, hb, hg, hnc, hcm, hcs, ht⟩
  · cases h1
  · cases h1
    have e : (l.take n).length = n := by rw [List.length_take]; omega
    unfold OwU
    rw [e]
    refine ⟨by rw [uv_length, e]; omega, .inr ⟨b, c, cur, rfl, hb, hg, by omega, hcm, hcs, ?_⟩⟩
    rw [uv_take, ← ht, List.take_take]
    congr 1
    omega
set_option maxRecDepth 20000 in
set_option maxHeartbeats 2000000 in
theorem popm_any (w : World) (g : Nat) (c0 v : Value) (l : List Nat) (n : Nat) (h : Hb w g c0 v l) (hn : l.length = n + 1) (hs : n ≤ 1000000) :
    Calls Try.prog 116 #[.pointer (some ⟨g, 1, none⟩)] w fun e w' => e = .returned (.iface 28 (.int .u64 (gv l n : Int))) ∧ ∃ v', Hb w' g c0 v' (l.take n) ∧ Fr (fun i => i = g) w w' ∧ v'.ownBlock = v.ownBlock := by
  obtain ⟨b, c, rfl, hlc, hcm, hbl⟩ : ∃ b c, v = .slice (some ⟨b, 0, none⟩) l.length c ∧ l.length ≤ c ∧ c ≤ maxLen ∧ b < w.heap.size := by
    rcases h.o.sh with ⟨_, e⟩ | h
    · rw [e] at hn; simp at hn
    · exact h
  have c1 := h.b.cell 1 _ rfl
  have f1 := h.b.free 1
  have cn := h.o.at n (by omega)
  have H := hide h
  have hcut := h.o.cut (n := n) (by omega)
  have hne := h.ne b rfl
  rw [hn] at c1 hlc
  unfold maxLen at hcm
  have HC := hide hcut
  have HNE := hide hne
  have HN := hide hn
  clear h hcut hne hn
  go_enter Try.func116, Try.ntmps116
  go_wp2_with fail
  go_ret
  refine ⟨rfl, .slice (some ⟨b, 0, none⟩) n c, ⟨?_, ?_⟩, Fr.of_grown grown_setCell fun j hj => .inl (by cases hj; rfl), rfl⟩
  · have := H.out.b; rw [HN.out] at this; exact this.set 1 _
  · have := ownsRow_setCell_other HC.out (a := ⟨g, 1, none⟩) (fun e => HNE.out (by cases e; rfl)) (.slice (some ⟨b, 0, none⟩) n c)
    exact this
set_option maxRecDepth 20000 in
set_option maxHeartbeats 2000000 in
theorem hpush_any (w : World) (g : Nat) (c0 v : Value) (l : List Nat) (x : Nat) (h : Hb w g c0 v l) (hp : Hp l) (hs : l.length < 1000000) :
    Calls Try.prog 58 #[ifR g, .iface 28 (.int .u64 (x : Int))] w fun e w' => e = .returned (.tuple #[]) ∧ ∃ v' l', Hb w' g c0 v' l' ∧ Hp l' ∧ l'.Perm (l ++ [x]) ∧ Fr (fun i => i = g ∨ v.ownBlock = some i) w w' ∧ (v'.ownBlock = v.ownBlock ∨ ∃ b, v'.ownBlock = some b ∧ w.heap.size ≤ b) := by
  have mP := mPush (.pointer (some ⟨g, 1, none⟩))
  have kP := push_any w g c0 v l x h (by omega)
  have HS : Hid ((l ++ [x]).length ≤ 1000000) := by apply hide; simp; omega
  have hn : l.length ≤ 1000000 := by omega
  have HHP := hide hp
  clear h hs hp
  go_enter Try.func58, Try.ntmps58
  go_wp2_with (first | (go_at_call 117; refine kP.mono ?_; rintro e w1 ⟨he1, v1, h1, fr1, b1⟩; subst he1; have H1 := hide h1; have FR1 := hide fr1; have B1 := hide b1; obtain ⟨a1, cc1, e1⟩ := own_sl h1.o; subst e1; have mL := mLen' h1; have hl1 : (l ++ [x]).length = l.length + 1 := (by simp); have HL1 := hide hl1; rw [hl1] at mL; clear h1 fr1 b1 hl1) | (go_at_call 113; refine (len_any _ _ _ _).mono ?_; rintro e w2 ⟨rfl, rfl⟩) | (go_at_call 75; refine (up_any _ _ _ _ _ _ _ H1.out (UpI.start HHP.out x) HS.out).mono ?_; rintro e w3 ⟨he3, l3, h3, hp3, pm3, fr3⟩; subst he3; have H3 := hide h3; have FR3 := hide fr3; clear h3 fr3))
  go_end0
  refine ⟨rfl, _, l3, H3.out, hp3, pm3, FR1.out.trans FR3.out ?_, B1.out⟩
  intro i hi hv
  rcases B1.out with e | ⟨b, e, hb⟩
  · rw [e] at hv; exact .inr hv
  · rw [e] at hv; injection hv with hv; omega
end Go.Proofs.Ytnkllgpibmofiaa
