/- What the parts of a span are. No program stands here. -/
import Derived.Test.YthijbpodkklcnaaSpl2
namespace Go.Proofs.Ythijbpodkklcnaa

theorem emod_of_base {x q g : Int} (h1 : g * q ≤ x) (h2 : x < g * q + g) : x % g = x - g * q := by
  have e : x = (x - g * q) + g * q := by omega
  have : x % g = (x - g * q) % g := by
    conv => lhs; rw [e]
    exact Int.add_mul_emod_self_left _ _ _
  rw [this]
  exact Int.emod_eq_of_lt (by omega) (by omega)
/-- A part lies in one bucket. -/
theorem bck_part {F T g : Int} (hg : 1 ≤ g) (hF : In64 F) (hT : In64 T) (h : F < T) : bck F g = bck (fe F T g - 1) g := by
  have h1 := Int.emod_nonneg F (show g ≠ 0 by omega)
  have h2 := Int.emod_lt_of_pos F (show 0 < g by omega)
  have h3 := Int.mul_ediv_add_emod F g
  obtain ⟨k1, k2⟩ := fe_in (g := g) hg h
  have k3 : fe F T g ≤ F + (g - F % g) := by
    unfold fe In64 at *
    split <;> omega
  generalize fe F T g = E at *
  have hm : (E - 1) % g = (E - 1) - g * (F / g) := emod_of_base (by omega) (by omega)
  unfold bck
  have hgn : ¬ g < 1 := by omega
  rw [if_neg hgn, if_neg hgn, hm]
  generalize g * (F / g) = B at *
  generalize F % g = m at *
  unfold In64 at *
  by_cases c : B < -9223372036854775808
  · rw [if_pos (by omega), if_pos (by omega)]
  · rw [if_neg (by omega), if_neg (by omega)]; omega

structure Cut (g F T : Int) (l : List Sp) : Prop where
  none : l = [] ↔ T ≤ F
  each : ∀ p ∈ l, p.1 < p.2 ∧ F ≤ p.1 ∧ p.2 ≤ T ∧ bck p.1 g = bck (p.2 - 1) g
  touch : ∀ i (h : i + 1 < l.length), (l[i]).2 = (l[i + 1]).1
  head : ∀ (h : 0 < l.length), (l[0]).1 = F
  last : ∀ (h : 0 < l.length), (l[l.length - 1]).2 = T
  count : ∀ t, (l.filter fun p => hol p t).length = if F ≤ t ∧ t < T then 1 else 0
theorem cut_is {g T : Int} (hg : 1 ≤ g) (hT : In64 T) : ∀ (n : Nat) (F : Int) (l : List Sp), In64 F → cut g T n F = some l → Cut g F T l := by
  have base : ∀ F : Int, T ≤ F → Cut g F T [] := fun F h =>
    ⟨⟨fun _ => h, fun _ => rfl⟩, (fun _ h => by cases h), (fun i h => by simp at h), (fun h => by simp at h), (fun h => by simp at h), fun t => by rw [if_neg (by omega)]; rfl⟩
  intro n
  induction n with
  | zero =>
    intro F l hF h
    by_cases c : T ≤ F
    · rw [cut_done g T 0 F c] at h
      obtain rfl := Option.some.inj h
      exact base F c
    · rw [cut_out g T F c] at h; cases h
  | succ n ih =>
    intro F l hF h
    by_cases c : T ≤ F
    · rw [cut_done g T _ F c] at h
      obtain rfl := Option.some.inj h
      exact base F c
    · rw [cut_more g T n F c] at h
      obtain ⟨l', h', rfl⟩ := Option.map_eq_some_iff.1 h
      obtain ⟨k1, k2⟩ := fe_in (F := F) (T := T) (g := g) hg (by omega)
      have hE : In64 (fe F T g) := by unfold In64 at *; omega
      have hb := bck_part (T := T) hg hF hT (by omega)
      have I := ih _ l' hE h'
      generalize fe F T g = E at *
      refine ⟨?_, ?_, ?_, ?_, ?_, ?_⟩
      · constructor
        · intro e; cases e
        · intro e; exact absurd e c
      · intro p hp
        rcases List.mem_cons.1 hp with rfl | hp
        · exact ⟨k1, Int.le_refl _, k2, hb⟩
        · obtain ⟨j1, j2, j3, j4⟩ := I.each p hp
          exact ⟨j1, by omega, j3, j4⟩
      · intro i hi
        cases i with
        | zero => simp only [List.getElem_cons_zero, List.getElem_cons_succ]; exact (I.head (by simpa using hi)).symm
        | succ i => simp only [List.getElem_cons_succ]; exact I.touch i (by simpa using hi)
      · intro _; rfl
      · intro _
        cases l' with
        | nil =>
          have := I.none.1 rfl
          show E = T
          omega
        | cons a l'' => exact I.last (by simp)
      · intro t
        rw [List.filter_cons]
        have hc := I.count t
        by_cases d : hol (F, E) t = true
        · have hd := (hol_iff _ _).1 d
          simp only at hd
          rw [if_pos d, List.length_cons, hc, if_neg (by omega), if_pos (by omega)]
        · have hd : ¬ (F ≤ t ∧ t < E) := fun k => d ((hol_iff (F, E) t).2 k)
          rw [if_neg d, hc]
          by_cases q : E ≤ t ∧ t < T
          · rw [if_pos q, if_pos (by omega)]
          · rw [if_neg q, if_neg (by omega)]
theorem split_is {s : Sp} {g : Int} {l : List Sp} (hF : In64 s.1) (hT : In64 s.2) (h : splitE s g = some l) : Cut g s.1 s.2 l ∧ 1 ≤ g := by
  unfold splitE at h
  by_cases c : g < 1
  · rw [if_pos c] at h; cases h
  · rw [if_neg c] at h; exact ⟨cut_is (by omega) hT 1000 s.1 l hF h, by omega⟩
theorem cut_length {g T : Int} : ∀ (n : Nat) (F : Int) (l : List Sp), cut g T n F = some l → l.length ≤ n
  | 0, F, l, h => by
    by_cases c : T ≤ F
    · rw [cut_done g T 0 F c] at h; obtain rfl := Option.some.inj h; simp
    · rw [cut_out g T F c] at h; cases h
  | n + 1, F, l, h => by
    by_cases c : T ≤ F
    · rw [cut_done g T _ F c] at h; obtain rfl := Option.some.inj h; simp
    · rw [cut_more g T n F c] at h
      obtain ⟨l', h', rfl⟩ := Option.map_eq_some_iff.1 h
      have := cut_length n _ l' h'
      simp; omega
theorem split_length {s : Sp} {g : Int} {l : List Sp} (h : splitE s g = some l) : l.length ≤ 1000 := by
  unfold splitE at h
  split at h
  · cases h
  · exact cut_length _ _ _ h
end Go.Proofs.Ythijbpodkklcnaa
