/- PURE: what is left of batches from which the first were released. -/
import Derived.Test.YtmnlkmgpikilbaaPuP
import Derived.Test.YtmnlkmgpikilbaaChn
namespace Go.Proofs.Ytmnlkmgpikilbaa
set_option linter.unusedVariables false

theorem kch_split : ∀ (g : Nat) (Z : List Kp) (s e : Nat), kch s Z e → ∃ r, kch s (Z.take g) r ∧ kch r (Z.drop g) e ∧ s ≤ r ∧ r ≤ e
  | 0, Z, s, e, h => ⟨s, rfl, h, Nat.le_refl _, by have := (kch_len Z s e h).1; omega⟩
  | g + 1, [], s, e, h => ⟨e, h, rfl, Nat.le_of_eq h, Nat.le_refl _⟩
  | g + 1, p :: Z, s, e, ⟨h1, h2, h3, h4⟩ => by
    obtain ⟨r, k1, k2, k3, k4⟩ := kch_split g Z p.up e h4
    exact ⟨r, ⟨h1, h2, h3, k1⟩, k2, by omega, k4⟩
theorem ahd_low (p : Kp) (off : Nat) (h : off ≤ p.fr) (h2 : p.fr ≤ p.up) : ahd p off = 0 := by unfold ahd; omega
theorem kch_bhL : ∀ (Z : List Kp) (s e off : Nat), off ≤ s → kch s Z e → bh Z off = Z.flatMap Kp.ts
  | [], s, e, off, _, h => rfl
  | p :: Z, s, e, off, ho, ⟨h1, h2, h3, h4⟩ => by
    have := kch_bhL Z p.up e off (by omega) h4
    unfold bh at this ⊢
    rw [List.flatMap_cons, List.flatMap_cons, ahd_low p off (by omega) (by omega), List.drop_zero, this]
theorem bh_le (Z : List Kp) (off : Nat) : (bh Z off).length ≤ (Z.flatMap Kp.ts).length := by
  induction Z with
  | nil => exact Nat.le_refl _
  | cons p Z ih =>
    unfold bh at ih ⊢
    rw [List.flatMap_cons, List.flatMap_cons, List.length_append, List.length_append, List.length_drop]
    omega
theorem flat_drop (Z : List Kp) (g s e r : Nat) (h : kch s Z e) (hr : kch s (Z.take g) r) : (Z.drop g).flatMap Kp.ts = (Z.flatMap Kp.ts).drop (r - s) := by
  have h1 := (kch_len _ s r hr).2.1
  have e1 : Z.flatMap Kp.ts = (Z.take g).flatMap Kp.ts ++ (Z.drop g).flatMap Kp.ts := by rw [← List.flatMap_append, List.take_append_drop]
  rw [e1, List.drop_left' (by omega)]
theorem rls_eq {Z : List Kp} {o : Kp} {r : Nat} (h : kch r Z o.fr) : rls Z o = r := by
  cases Z with
  | nil => exact (show r = o.fr from h).symm
  | cons p Z => exact h.1
/-- Where the first g end. -/
def rel (Z : List Kp) (g : Nat) : Nat := match g with | 0 => 0 | g + 1 => match Z[g]? with | some p => p.up | none => 0
theorem rel_kch {Z : List Kp} {e g : Nat} (h : kch 0 Z e) (hg : g ≤ Z.length) : kch 0 (Z.take g) (rel Z g) := by
  cases g with
  | zero => exact rfl
  | succ g =>
    have := (kch_fr Z 0 e g (by omega) h).2.2.2.1
    unfold rel
    simp only
    rw [List.getElem?_eq_getElem (by omega)]
    exact this
theorem rel_drop {Z : List Kp} {e g : Nat} (h : kch 0 Z e) (hg : g ≤ Z.length) : kch (rel Z g) (Z.drop g) e ∧ rel Z g ≤ e := by
  obtain ⟨r, k1, k2, k3, k4⟩ := kch_split g Z 0 e h
  have := kch_fun _ 0 _ _ k1 (rel_kch h hg)
  subst this
  exact ⟨k2, k4⟩
theorem rel_pos {Z : List Kp} {e g : Nat} (h : kch 0 Z e) (hg : g < Z.length) : rel Z (g + 1) = (Z[g]).up ∧ 0 < rel Z (g + 1) := by
  have := (kch_fr Z 0 e g hg h).2.2.1
  unfold rel
  simp only
  rw [List.getElem?_eq_getElem hg]
  refine ⟨rfl, ?_⟩
  show 0 < (Z[g]).up
  omega
/-- The times that IntakeGone has taken. -/
def gs (n : Nat) : List Int := (List.range n).map fun j => (((j + 1) % 23 : Nat) : Int)
theorem gs_length (n : Nat) : (gs n).length = n := by simp [gs]
theorem gs_succ (n : Nat) : gs (n + 1) = gs n ++ [(((n + 1) % 23 : Nat) : Int)] := by simp [gs, List.range_succ]
theorem gs_get (n j : Nat) (h : j < n) : (gs n)[j]? = some (((j + 1) % 23 : Nat) : Int) := by
  unfold gs
  rw [List.getElem?_map, List.getElem?_range h]
  rfl
/-- What Behind answers once the first g are gone. -/
theorem gone_facts {Z : List Kp} {o : Kp} {n g : Nat} (h : ChZ Z o (gs n)) (ho : o.ts = []) (hg : g ≤ Z.length) : bh (Z.drop g) (rel Z g) ++ o.ts.drop (ahd o (rel Z g)) = (gs n).drop (rel Z g) ∧ rls (Z.drop g) o = rel Z g ∧ rel Z g ≤ n ∧ o.up = n ∧ (∀ p ∈ Z.drop g, p.up ≤ n ∧ p.ts.length ≤ n) ∧ ∀ i, (bh ((Z.drop g).take i) (rel Z g)).length ≤ n := by
  have hup := h.up
  rw [gs_length] at hup
  have hfr : o.fr = n := by have := h.r; rw [ho] at this; simp at this; omega
  have hc := h.c
  rw [hfr] at hc
  obtain ⟨k1, k2⟩ := rel_drop hc hg
  refine ⟨?_, rls_eq (by rw [hfr]; exact k1), k2, hup, fun p hp => ?_, fun i => ?_⟩
  · rw [ho, List.drop_nil, List.append_nil, kch_bhL _ _ _ _ (Nat.le_refl _) k1, flat_drop Z g 0 n _ hc (rel_kch hc hg), Nat.sub_zero]
    have := h.a
    rw [ho, List.append_nil] at this
    rw [← this]
  · have hm := List.mem_of_mem_drop hp
    have h1 := (kch_len _ _ _ hc).2.2 p hm
    obtain ⟨j, hj, e⟩ := List.getElem_of_mem hm
    have h2 := (kch_fr Z 0 n j hj hc).2.1
    rw [e] at h2
    omega
  · obtain ⟨e', k3, k4⟩ := kch_take i _ _ _ k1
    have h1 := bh_le ((Z.drop g).take i) (rel Z g)
    have h2 := (kch_len _ _ _ k3).2.1
    omega
end Go.Proofs.Ytmnlkmgpikilbaa
