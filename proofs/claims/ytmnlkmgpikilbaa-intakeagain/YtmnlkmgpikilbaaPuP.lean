/- PURE: IntakeParts: how often each place was met. -/
import Derived.Test.YtmnlkmgpikilbaaChn
namespace Go.Proofs.Ytmnlkmgpikilbaa
set_option linter.unusedVariables false

/-- How often each place was met: all those ahead of fr; behind it those whose spans are done, and of the span k those ahead of the a-th. -/
def mt (sp : Int → K2) (fr : Nat) (ts : List Int) (D : List K2) (k : K2) (a : Nat) (x : Nat) : Int :=
  if x < fr then 1 else match ts[x - fr]? with
    | none => 0
    | some t => if sp t ∈ D ∨ (sp t = k ∧ x < fr + a) then 1 else 0
def pt (n : Nat) (x : Nat) : Int := if x < n then 1 else 0
theorem mt_start (sp : Int → K2) (fr : Nat) (ts : List Int) (k : K2) : mt sp fr ts [] k 0 = pt fr := by
  funext x
  unfold mt pt
  by_cases h : x < fr
  · rw [if_pos h, if_pos h]
  · rw [if_neg h, if_neg h]
    cases hx : ts[x - fr]? with
    | none => rfl
    | some t =>
      simp only
      rw [if_neg]
      rintro (q | ⟨_, q⟩)
      · cases q
      · omega
theorem mt_zero {sp : Int → K2} {fr : Nat} {ts : List Int} {D : List K2} {k : K2} {a : Nat} {t : Int} (ht : ts[a]? = some t) (hk : sp t = k) (hD : k ∉ D) : mt sp fr ts D k a (fr + a) = 0 := by
  unfold mt
  rw [if_neg (by omega), show fr + a - fr = a by omega, ht]
  simp only
  rw [if_neg]
  rintro (q | ⟨_, q⟩)
  · exact hD (hk ▸ q)
  · omega
theorem mt_hit {sp : Int → K2} {fr : Nat} {ts : List Int} {D : List K2} {k : K2} {a : Nat} {t : Int} (ht : ts[a]? = some t) (hk : sp t = k) : (fun y => if y = fr + a then 1 else mt sp fr ts D k a y) = mt sp fr ts D k (a + 1) := by
  funext x
  by_cases h : x = fr + a
  · subst h
    rw [if_pos rfl]
    unfold mt
    rw [if_neg (by omega), show fr + a - fr = a by omega, ht]
    simp only
    rw [if_pos (.inr ⟨hk, by omega⟩)]
  · rw [if_neg h]
    unfold mt
    by_cases h1 : x < fr
    · rw [if_pos h1, if_pos h1]
    · rw [if_neg h1, if_neg h1]
      cases hx : ts[x - fr]? with
      | none => rfl
      | some u =>
        simp only
        have : x < fr + a ↔ x < fr + (a + 1) := by omega
        simp only [this]
theorem mt_skip {sp : Int → K2} {fr : Nat} {ts : List Int} {D : List K2} {k : K2} {a : Nat} {t : Int} (ht : ts[a]? = some t) (hk : sp t ≠ k) : mt sp fr ts D k a = mt sp fr ts D k (a + 1) := by
  funext x
  unfold mt
  by_cases h1 : x < fr
  · rw [if_pos h1, if_pos h1]
  · rw [if_neg h1, if_neg h1]
    cases hx : ts[x - fr]? with
    | none => rfl
    | some u =>
      simp only
      by_cases h : x = fr + a
      · subst h
        rw [show fr + a - fr = a by omega, ht] at hx
        injection hx with hx
        subst hx
        simp only [hk, false_and]
      · have : x < fr + a ↔ x < fr + (a + 1) := by omega
        simp only [this]
theorem nodup_take : ∀ {ss : List K2} {c : Nat} (hc : c < ss.length), ss.Nodup → ss[c] ∉ ss.take c
  | [], c, hc, _ => by simp at hc
  | k :: ss, 0, hc, _ => by simp
  | k :: ss, c + 1, hc, h => by
    simp only [List.getElem_cons_succ, List.take_succ_cons, List.mem_cons, not_or]
    have hc' : c < ss.length := by simpa using hc
    obtain ⟨h1, h2⟩ := List.nodup_cons.1 h
    exact ⟨fun e => h1 (e ▸ List.getElem_mem hc'), nodup_take hc' h2⟩
theorem mt_k0 (sp : Int → K2) (fr : Nat) (ts : List Int) (D : List K2) (k k' : K2) : mt sp fr ts D k 0 = mt sp fr ts D k' 0 := by
  funext x
  unfold mt
  by_cases h1 : x < fr
  · rw [if_pos h1, if_pos h1]
  · rw [if_neg h1, if_neg h1]
    cases hx : ts[x - fr]? with
    | none => rfl
    | some u =>
      simp only
      have : ¬ x < fr + 0 := by omega
      simp only [this, and_false]
theorem ofK_nil {sp : Int → K2} {ts : List Int} {k : K2} (h : ofK sp ts k = []) (t : Int) (ht : t ∈ ts) : sp t ≠ k := fun e => by
  have : t ∈ ofK sp ts k := by unfold ofK; rw [List.mem_filter]; exact ⟨ht, by simpa using e⟩
  rw [h] at this
  cases this
theorem mt_next {sp : Int → K2} {fr : Nat} {ts : List Int} {D : List K2} {k : K2} {a : Nat} (h : ofK sp (ts.drop a) k = []) (k' : K2) : mt sp fr ts D k a = mt sp fr ts (D ++ [k]) k' 0 := by
  funext x
  unfold mt
  by_cases h1 : x < fr
  · rw [if_pos h1, if_pos h1]
  · rw [if_neg h1, if_neg h1]
    cases hx : ts[x - fr]? with
    | none => rfl
    | some u =>
      simp only
      have e : (sp u ∈ D ∨ sp u = k ∧ x < fr + a) ↔ (sp u ∈ D ++ [k] ∨ sp u = k' ∧ x < fr + 0) := by
        constructor
        · rintro (q | ⟨q, _⟩)
          · exact .inl (by simp [q])
          · exact .inl (by simp [q])
        · rintro (q | ⟨_, q⟩)
          · rcases List.mem_append.1 q with q | q
            · exact .inl q
            · simp at q
              refine .inr ⟨q, ?_⟩
              apply Classical.byContradiction
              intro hn
              have hm : u ∈ ts.drop a := by
                rw [List.mem_iff_getElem?]
                exact ⟨x - fr - a, by rw [List.getElem?_drop, show a + (x - fr - a) = x - fr by omega]; exact hx⟩
              exact ofK_nil h u hm q
          · omega
      simp only [e]
theorem mt_end {sp : Int → K2} {fr : Nat} {ts : List Int} {D : List K2} {k : K2} (h : ∀ t ∈ ts, sp t ∈ D) : mt sp fr ts D k 0 = pt (fr + ts.length) := by
  funext x
  unfold mt pt
  by_cases h1 : x < fr
  · rw [if_pos h1, if_pos (by omega)]
  · rw [if_neg h1]
    cases hx : ts[x - fr]? with
    | none =>
      have := List.getElem?_eq_none_iff.1 hx
      rw [if_neg (by omega)]
    | some u =>
      have hl := (List.getElem?_eq_some_iff.1 hx).1
      simp only
      rw [if_pos (.inl (h u (List.mem_of_getElem? hx))), if_pos (by omega)]
/-- Which facts of a span are still to be met from the a-th on. -/
theorem of_skip {sp : Int → K2} {ts : List Int} {k : K2} {j a : Nat} {t f : Int} (h : (ofK sp ts k).drop j = ofK sp (ts.drop a) k) (hf : (ofK sp ts k)[j]? = some f) (ht : ts[a]? = some t) (hne : t ≠ f) : sp t ≠ k ∧ (ofK sp ts k).drop j = ofK sp (ts.drop (a + 1)) k := by
  have hd : ts.drop a = t :: ts.drop (a + 1) := by
    obtain ⟨h1, h2⟩ := List.getElem?_eq_some_iff.1 ht
    rw [List.drop_eq_getElem_cons h1, h2]
  have hj : (ofK sp ts k).drop j = f :: (ofK sp ts k).drop (j + 1) := by
    obtain ⟨h1, h2⟩ := List.getElem?_eq_some_iff.1 hf
    rw [List.drop_eq_getElem_cons h1, h2]
  by_cases hs : sp t = k
  · exfalso
    rw [hj, hd] at h
    unfold ofK at h
    rw [List.filter_cons_of_pos (by simpa using hs)] at h
    injection h with h1 _
    exact hne h1.symm
  · refine ⟨hs, ?_⟩
    rw [h, hd]
    unfold ofK
    rw [List.filter_cons_of_neg (by simpa using hs)]
theorem of_hit {sp : Int → K2} {ts : List Int} {k : K2} {j a : Nat} {t : Int} (h : (ofK sp ts k).drop j = ofK sp (ts.drop a) k) (hf : (ofK sp ts k)[j]? = some t) (ht : ts[a]? = some t) : sp t = k ∧ (ofK sp ts k).drop (j + 1) = ofK sp (ts.drop (a + 1)) k := by
  have hd : ts.drop a = t :: ts.drop (a + 1) := by
    obtain ⟨h1, h2⟩ := List.getElem?_eq_some_iff.1 ht
    rw [List.drop_eq_getElem_cons h1, h2]
  have hj : (ofK sp ts k).drop j = t :: (ofK sp ts k).drop (j + 1) := by
    obtain ⟨h1, h2⟩ := List.getElem?_eq_some_iff.1 hf
    rw [List.drop_eq_getElem_cons h1, h2]
  have hs : sp t = k := by
    have : t ∈ ofK sp ts k := List.mem_of_getElem? hf
    unfold ofK at this
    rw [List.mem_filter] at this
    simpa using this.2
  refine ⟨hs, ?_⟩
  rw [hj, hd] at h
  unfold ofK at h ⊢
  rw [List.filter_cons_of_pos (by simpa using hs)] at h
  injection h with _ h1
theorem of_in {sp : Int → K2} {ts : List Int} {k : K2} {j a : Nat} {f : Int} (h : (ofK sp ts k).drop j = ofK sp (ts.drop a) k) (hf : (ofK sp ts k)[j]? = some f) : a < ts.length := by
  apply Classical.byContradiction
  intro hn
  rw [List.drop_of_length_le (l := ts) (i := a) (by omega)] at h
  have h1 := (List.getElem?_eq_some_iff.1 hf).1
  have h0 : (ofK sp ts k).drop j = [] := h
  rw [List.drop_eq_nil_iff] at h0
  omega
theorem of_sp {sp : Int → K2} {ts : List Int} {k : K2} {j : Nat} {f : Int} (hf : (ofK sp ts k)[j]? = some f) : sp f = k ∧ f ∈ ts := by
  have : f ∈ ofK sp ts k := List.mem_of_getElem? hf
  unfold ofK at this
  rw [List.mem_filter] at this
  exact ⟨by simpa using this.2, this.1⟩
/-- A batch's times among all. -/
theorem kch_at : ∀ (Z : List Kp) (s e i a : Nat) (t : Int) (hi : i < Z.length), kch s Z e → (Z[i]).ts[a]? = some t → s ≤ (Z[i]).fr ∧ (Z.flatMap Kp.ts)[(Z[i]).fr - s + a]? = some t
  | [], s, e, i, a, t, hi, _, _ => by simp at hi
  | p :: Z, s, e, 0, a, t, hi, ⟨h1, h2, h3, h4⟩, ht => by
    simp only [List.getElem_cons_zero] at ht ⊢
    refine ⟨by omega, ?_⟩
    rw [h1, List.flatMap_cons, show s - s + a = a by omega, List.getElem?_append_left (List.getElem?_eq_some_iff.1 ht).1]
    exact ht
  | p :: Z, s, e, i + 1, a, t, hi, ⟨h1, h2, h3, h4⟩, ht => by
    simp only [List.getElem_cons_succ] at ht ⊢
    have hi' : i < Z.length := by simpa using hi
    obtain ⟨k1, k2⟩ := kch_at Z p.up e i a t hi' h4 ht
    refine ⟨by omega, ?_⟩
    rw [List.flatMap_cons, List.getElem?_append_right (by omega), show (Z[i]).fr - s + a - p.ts.length = (Z[i]).fr - p.up + a by omega]
    exact k2
theorem kch_fr : ∀ (Z : List Kp) (s e i : Nat) (hi : i < Z.length), kch s Z e → kch s (Z.take i) (Z[i]).fr ∧ (Z[i]).up = (Z[i]).fr + (Z[i]).ts.length ∧ (Z[i]).fr < (Z[i]).up ∧ kch s (Z.take (i + 1)) (Z[i]).up ∧ (Z[i]).up ≤ e
  | [], s, e, i, hi, _ => by simp at hi
  | p :: Z, s, e, 0, hi, ⟨h1, h2, h3, h4⟩ => ⟨h1.symm, h2, h3, ⟨h1, h2, h3, rfl⟩, by
      have : ∀ (Z : List Kp) (s e : Nat), kch s Z e → s ≤ e := by
        intro Z
        induction Z with
        | nil => intro s e h; exact Nat.le_of_eq h
        | cons q Z ih => intro s e ⟨g1, g2, g3, g4⟩; have := ih _ _ g4; omega
      exact this Z _ _ h4⟩
  | p :: Z, s, e, i + 1, hi, ⟨h1, h2, h3, h4⟩ => by
    have hi' : i < Z.length := by simpa using hi
    obtain ⟨k1, k2, k3, k4, k5⟩ := kch_fr Z p.up e i hi' h4
    exact ⟨⟨h1, h2, h3, k1⟩, k2, k3, ⟨h1, h2, h3, k4⟩, k5⟩
theorem kch_fun : ∀ (Z : List Kp) (s a b : Nat), kch s Z a → kch s Z b → a = b
  | [], s, a, b, h1, h2 => (show s = a from h1).symm.trans h2
  | p :: Z, s, a, b, h1, h2 => kch_fun Z p.up a b h1.2.2.2 h2.2.2.2
end Go.Proofs.Ytmnlkmgpikilbaa
