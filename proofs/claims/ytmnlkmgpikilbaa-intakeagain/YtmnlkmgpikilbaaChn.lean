/- PURE. Batches follow one another, from 0 on. -/
import Derived.Test.YtmnlkmgpikilbaaAwk
namespace Go.Proofs.Ytmnlkmgpikilbaa
set_option linter.unusedVariables false

def kch : Nat → List Kp → Nat → Prop
  | s, [], e => s = e
  | s, p :: Z, e => p.fr = s ∧ p.up = p.fr + p.ts.length ∧ p.fr < p.up ∧ kch p.up Z e
theorem kch_snoc : ∀ (Z : List Kp) (s e : Nat) (o : Kp), kch s Z e → o.fr = e → o.up = o.fr + o.ts.length → o.fr < o.up → kch s (Z ++ [o]) o.up
  | [], s, e, o, h, h1, h2, h3 => ⟨by rw [h1]; exact h.symm, h2, h3, rfl⟩
  | p :: Z, s, e, o, h, h1, h2, h3 => ⟨h.1, h.2.1, h.2.2.1, kch_snoc Z _ e o h.2.2.2 h1 h2 h3⟩
theorem kch_len : ∀ (Z : List Kp) (s e : Nat), kch s Z e → s + Z.length ≤ e ∧ s + (Z.flatMap Kp.ts).length = e ∧ ∀ p ∈ Z, p.up ≤ e
  | [], s, e, h => ⟨by rw [show s = e from h]; simp, by rw [show s = e from h]; simp, fun p hp => by cases hp⟩
  | p :: Z, s, e, ⟨h1, h2, h3, h4⟩ => by
    obtain ⟨k1, k2, k3⟩ := kch_len Z p.up e h4
    refine ⟨by simp only [List.length_cons]; omega, by rw [List.flatMap_cons, List.length_append]; omega, fun q hq => ?_⟩
    rcases List.mem_cons.1 hq with e1 | e1
    · subst e1; omega
    · exact k3 q e1
theorem ahd_zero (p : Kp) (h : p.fr ≤ p.up) : ahd p 0 = 0 := by unfold ahd; omega
theorem kch_bh : ∀ (Z : List Kp) (s e : Nat), kch s Z e → bh Z 0 = Z.flatMap Kp.ts
  | [], s, e, h => rfl
  | p :: Z, s, e, ⟨h1, h2, h3, h4⟩ => by
    unfold bh
    rw [List.flatMap_cons, List.flatMap_cons, ahd_zero p (by omega), List.drop_zero]
    have := kch_bh Z p.up e h4
    unfold bh at this
    rw [this]
theorem kch_take : ∀ (i : Nat) (Z : List Kp) (s e : Nat), kch s Z e → ∃ e', kch s (Z.take i) e' ∧ e' ≤ e
  | 0, Z, s, e, h => ⟨s, rfl, by have := (kch_len Z s e h).1; omega⟩
  | i + 1, [], s, e, h => ⟨e, h, Nat.le_refl _⟩
  | i + 1, p :: Z, s, e, ⟨h1, h2, h3, h4⟩ => by
    obtain ⟨e', k1, k2⟩ := kch_take i Z p.up e h4
    exact ⟨e', ⟨h1, h2, h3, k1⟩, k2⟩
/-- What is in an intake that began at 0 and from which nothing was released: all times, in order. -/
structure ChZ (Z : List Kp) (o : Kp) (all : List Int) : Prop where
  c : kch 0 Z o.fr
  r : o.up = o.fr + o.ts.length
  a : all = Z.flatMap Kp.ts ++ o.ts
  n : o.num = (Z.length : Int) + 1
theorem ChZ.new : ChZ [] { num := 1, fr := 0, up := 0, v := nl, ts := [] } [] := ⟨rfl, rfl, rfl, rfl⟩
theorem ChZ.up {Z : List Kp} {o : Kp} {all : List Int} (h : ChZ Z o all) : o.up = all.length := by
  have := (kch_len Z 0 o.fr h.c).2.1
  rw [h.r, h.a, List.length_append]
  omega
theorem ChZ.zlen {Z : List Kp} {o : Kp} {all : List Int} (h : ChZ Z o all) : Z.length ≤ all.length := by
  have h1 := (kch_len Z 0 o.fr h.c).1
  have h2 := h.up
  have h3 := h.r
  omega
theorem ChZ.hbs {Z : List Kp} {o : Kp} {all : List Int} (h : ChZ Z o all) (p : Kp) (hp : p ∈ Z) : p.up ≤ all.length := by
  have h1 := (kch_len Z 0 o.fr h.c).2.2 p hp
  have h2 := h.up
  have h3 := h.r
  omega
theorem ChZ.hsum {Z : List Kp} {o : Kp} {all : List Int} (h : ChZ Z o all) (i : Nat) : (bh (Z.take i) 0).length ≤ all.length := by
  obtain ⟨e', k1, k2⟩ := kch_take i Z 0 o.fr h.c
  rw [kch_bh _ _ _ k1]
  have h1 := (kch_len _ 0 e' k1).2.1
  have h2 := h.up
  have h3 := h.r
  omega
theorem ChZ.rls {Z : List Kp} {o : Kp} {all : List Int} (h : ChZ Z o all) : rls Z o = 0 := by
  have hc := h.c
  cases Z with
  | nil => exact (show 0 = o.fr from hc).symm
  | cons p Z => exact hc.1
theorem ChZ.bh {Z : List Kp} {o : Kp} {all : List Int} (h : ChZ Z o all) : bh Z 0 ++ o.ts.drop (ahd o 0) = all := by
  rw [kch_bh Z _ _ h.c, ahd_zero o (by have := h.r; omega), List.drop_zero]
  exact h.a.symm
theorem ChZ.take {Z : List Kp} {o : Kp} {all : List Int} (h : ChZ Z o all) (v : Value) (t : Int) : ChZ Z { num := o.num, fr := o.fr, up := o.up + 1, v := v, ts := o.ts ++ [t] } (all ++ [t]) := by
  refine ⟨h.c, ?_, ?_, h.n⟩
  · have := h.r
    simp only [List.length_append, List.length_singleton]
    omega
  · simp only
    rw [h.a, List.append_assoc]
theorem ChZ.seal {Z : List Kp} {o : Kp} {all : List Int} (h : ChZ Z o all) (hn : o.fr < o.up) : ChZ (Z ++ [o]) { num := o.num + 1, fr := o.up, up := o.up, v := nl, ts := [] } all := by
  refine ⟨kch_snoc Z 0 o.fr o h.c rfl h.r hn, rfl, ?_, ?_⟩
  · simp only [List.append_nil]
    rw [h.a, List.flatMap_append]
    simp
  · have := h.n
    simp only [List.length_append, List.length_singleton]
    omega
end Go.Proofs.Ytmnlkmgpikilbaa
