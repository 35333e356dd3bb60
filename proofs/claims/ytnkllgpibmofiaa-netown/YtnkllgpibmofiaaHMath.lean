/- A heap in a row, purely: what pushing and popping leave of it. No walk stands here. -/
namespace Go.Proofs.Ytnkllgpibmofiaa
set_option linter.unusedVariables false

def gv (l : List Nat) (i : Nat) : Nat := l.getD i 0
def swp (l : List Nat) (i j : Nat) : List Nat := (l.set i (gv l j)).set j (gv l i)
theorem swp_length (l : List Nat) (i j : Nat) : (swp l i j).length = l.length := by simp [swp]
theorem gv_swp {l : List Nat} {i j : Nat} (hi : i < l.length) (hj : j < l.length) (k : Nat) : gv (swp l i j) k = if k = j then gv l i else if k = i then gv l j else gv l k := by
  unfold gv swp gv
  simp only [List.getD_eq_getElem?_getD, List.getElem?_set, List.length_set]
  by_cases h1 : k = j
  · subst h1; simp [hj]
  · by_cases h2 : k = i
    · subst h2; simp [h1, hi, Ne.symm h1]
    · simp [h1, h2, Ne.symm h1, Ne.symm h2]
theorem gv_mem {l : List Nat} {i : Nat} (h : i < l.length) : gv l i ∈ l := by
  unfold gv
  rw [List.getD_eq_getElem?_getD, List.getElem?_eq_getElem h]
  exact List.getElem_mem h
theorem mem_gv {l : List Nat} {x : Nat} (h : x ∈ l) : ∃ i, i < l.length ∧ gv l i = x := by
  obtain ⟨i, hi, e⟩ := List.getElem_of_mem h
  exact ⟨i, hi, by unfold gv; rw [List.getD_eq_getElem?_getD, List.getElem?_eq_getElem hi]; exact e⟩
theorem swp_count {l : List Nat} {i j : Nat} (hi : i < l.length) (hj : j < l.length) : (swp l i j).Perm l := by
  rw [List.perm_iff_count]
  intro x
  unfold swp
  have e1 : gv l i = l[i] := by unfold gv; simp [hi]
  have e2 : gv l j = l[j] := by unfold gv; simp [hj]
  rw [List.count_set (by simpa using hj), List.count_set hi, e1, e2]
  have hin : 0 < l.count l[i] := List.count_pos_iff.2 (List.getElem_mem hi)
  have hjn : 0 < l.count l[j] := List.count_pos_iff.2 (List.getElem_mem hj)
  by_cases hij : i = j
  · subst hij
    by_cases h1 : l[i] = x
    · simp [h1]; have : 0 < l.count x := by rw [← h1]; exact hin
      omega
    · simp [h1]
  · have e3 : (l.set i l[j])[j]'(by simpa using hj) = l[j] := by rw [List.getElem_set]; simp [hij]
    rw [e3]
    by_cases h1 : l[i] = x <;> by_cases h2 : l[j] = x
    · have : 0 < l.count x := by rw [← h1]; exact hin
      simp [h1, h2]; omega
    · have : 0 < l.count x := by rw [← h1]; exact hin
      simp [h1, h2]; omega
    · have : 0 < l.count x := by rw [← h2]; exact hjn
      simp [h1, h2]
    · simp [h1, h2]
/-- No one is below the one above it. -/
def HpN (l : List Nat) (n : Nat) : Prop := ∀ i, 0 < i → i < n → gv l ((i - 1) / 2) ≤ gv l i
def Hp (l : List Nat) : Prop := HpN l l.length
theorem Hp.nil : Hp [] := fun i _ h => by simp at h
theorem HpN.least {l : List Nat} {n : Nat} (h : HpN l n) : ∀ i, i < n → gv l 0 ≤ gv l i := by
  intro i
  induction i using Nat.strongRecOn with
  | ind i ih =>
    intro hi
    by_cases h0 : i = 0
    · subst h0; exact Nat.le_refl _
    · exact Nat.le_trans (ih ((i - 1) / 2) (by omega) (by omega)) (h i (by omega) hi)
theorem Hp.least {l : List Nat} (h : Hp l) {x : Nat} (hx : x ∈ l) : gv l 0 ≤ x := by
  obtain ⟨i, hi, rfl⟩ := mem_gv hx
  exact HpN.least h i hi
/-- While one rises. -/
structure UpI (l0 l : List Nat) (j : Nat) : Prop where
  p : l.Perm l0
  lt : j < l.length
  h : ∀ i, 0 < i → i < l.length → i ≠ j → gv l ((i - 1) / 2) ≤ gv l i
  c : ∀ i, 0 < i → i < l.length → (i - 1) / 2 = j → 0 < j → gv l ((j - 1) / 2) ≤ gv l i
theorem UpI.start {l : List Nat} (h : Hp l) (x : Nat) : UpI (l ++ [x]) (l ++ [x]) l.length := by
  have e : ∀ i, i < l.length → gv (l ++ [x]) i = gv l i := fun i hi => by unfold gv; rw [List.getD_eq_getElem?_getD, List.getElem?_append_left hi, List.getD_eq_getElem?_getD]
  refine ⟨.refl _, by simp, fun i h0 h1 h2 => ?_, fun i h0 h1 h2 h3 => ?_⟩
  · simp at h1
    rw [e i (by omega), e _ (by omega)]
    exact h i h0 (by omega)
  · simp at h1; omega
theorem UpI.step {l0 l : List Nat} {j : Nat} (h : UpI l0 l j) (h0 : 0 < j) (hl : gv l j < gv l ((j - 1) / 2)) : UpI l0 (swp l ((j - 1) / 2) j) ((j - 1) / 2) := by
  have hj := h.lt
  have hi : (j - 1) / 2 < l.length := by omega
  have hg := gv_swp hi hj
  refine ⟨(swp_count hi hj).trans h.p, by rw [swp_length]; exact hi, fun i h1 h2 h3 => ?_, fun i h1 h2 h3 h4 => ?_⟩
  · rw [swp_length] at h2
    rw [hg, hg]
    by_cases e : i = j
    · subst e; rw [if_neg (by omega), if_pos rfl, if_pos rfl]; omega
    · have k := h.h i h1 h2 e
      rw [if_neg (c := i = j) e, if_neg (c := i = (j - 1) / 2) h3]
      by_cases e2 : (i - 1) / 2 = j
      · rw [if_pos e2]; exact h.c i h1 h2 e2 h0
      · rw [if_neg e2]
        by_cases e3 : (i - 1) / 2 = (j - 1) / 2
        · rw [if_pos e3]; rw [e3] at k; omega
        · rw [if_neg e3]; exact k
  · rw [swp_length] at h2
    have k := h.h ((j - 1) / 2) h4 hi (by omega)
    rw [hg, hg, if_neg (by omega), if_neg (by omega)]
    by_cases e : i = j
    · rw [if_pos e]; exact k
    · rw [if_neg e, if_neg (by omega)]
      have k2 := h.h i h1 h2 e
      rw [h3] at k2
      omega
theorem UpI.done {l0 l : List Nat} {j : Nat} (h : UpI l0 l j) (hd : j = 0 ∨ ¬ gv l j < gv l ((j - 1) / 2)) : Hp l := fun i h1 h2 => by
  by_cases e : i = j
  · subst e; rcases hd with h3 | h3 <;> omega
  · exact h.h i h1 h2 e
/-- While one sinks among the first n. -/
structure DnI (l0 l : List Nat) (n i : Nat) : Prop where
  p : l.Perm l0
  le : n ≤ l.length
  h : ∀ k, 0 < k → k < n → (k - 1) / 2 ≠ i → gv l ((k - 1) / 2) ≤ gv l k
  c : ∀ k, 0 < k → k < n → (k - 1) / 2 = i → 0 < i → gv l ((i - 1) / 2) ≤ gv l k
  tl : ∀ k, n ≤ k → gv l k = gv l0 k
theorem DnI.step {l0 l : List Nat} {n i j : Nat} (h : DnI l0 l n i) (hj : j < n) (h0 : 0 < j) (hp : (j - 1) / 2 = i) (hl : gv l j < gv l i) (hm : ∀ k, 0 < k → k < n → (k - 1) / 2 = i → gv l j ≤ gv l k) : DnI l0 (swp l i j) n j := by
  have hn := h.le
  have hj' : j < l.length := by omega
  have hi' : i < l.length := by omega
  have hg := gv_swp hi' hj'
  refine ⟨(swp_count hi' hj').trans h.p, by rw [swp_length]; exact hn, fun k h1 h2 h3 => ?_, fun k h1 h2 h3 h4 => ?_, fun k hk => ?_⟩
  · rw [hg, hg, if_neg (c := (k - 1) / 2 = j) h3]
    by_cases e : k = j
    · subst e; rw [if_pos hp, if_pos rfl]; omega
    · rw [if_neg (c := k = j) e]
      by_cases e2 : (k - 1) / 2 = i
      · rw [if_pos e2, if_neg (by omega)]; exact hm k h1 h2 e2
      · rw [if_neg e2]
        by_cases e3 : k = i
        · rw [if_pos e3]
          subst e3
          exact h.c j h0 hj hp h1
        · rw [if_neg e3]; exact h.h k h1 h2 e2
  · rw [hg, hg, hp, if_neg (by omega), if_pos rfl, if_neg (by omega), if_neg (by omega)]
    have := h.h k h1 h2 (by omega)
    rw [h3] at this
    exact this
  · rw [hg, if_neg (by omega), if_neg (by omega)]; exact h.tl k hk
theorem DnI.done {l0 l : List Nat} {n i : Nat} (h : DnI l0 l n i) (hd : ∀ k, 0 < k → k < n → (k - 1) / 2 = i → gv l i ≤ gv l k) : HpN l n := fun k h1 h2 => by
  by_cases e : (k - 1) / 2 = i
  · rw [e]; exact hd k h1 h2 e
  · exact h.h k h1 h2 e
theorem DnI.start {l : List Nat} (h : Hp l) {n : Nat} (hn : l.length = n + 1) : DnI (swp l 0 n) (swp l 0 n) n 0 := by
  have hg := gv_swp (l := l) (i := 0) (j := n) (by omega) (by omega)
  refine ⟨.refl _, by rw [swp_length]; omega, fun k h1 h2 h3 => ?_, fun k h1 h2 h3 h4 => by omega, fun k hk => rfl⟩
  rw [hg, hg, if_neg (by omega), if_neg (by omega), if_neg (by omega), if_neg (by omega)]
  exact h k h1 (by omega)
theorem take_hp {l : List Nat} {n : Nat} (h : HpN l n) (hn : n ≤ l.length) : Hp (l.take n) := fun i h1 h2 => by
  have h2' : i < n := by rw [List.length_take] at h2; omega
  have e : ∀ k, k < n → gv (l.take n) k = gv l k := fun k hk => by unfold gv; simp [hk]
  rw [e i h2', e _ (by omega)]
  exact h i h1 h2'
theorem split_last {l : List Nat} {n : Nat} (hn : l.length = n + 1) : l = l.take n ++ [gv l n] := by
  have h : n < l.length := by omega
  have e : gv l n = l[n] := by unfold gv; simp [h]
  rw [e]
  have := List.take_append_drop n l
  rw [List.drop_eq_getElem_cons h, List.drop_eq_nil_of_le (by omega)] at this
  exact this.symm
/-- Popping: what is left, and the first one, are together what there was. -/
theorem pop_perm {l l' : List Nat} {n i : Nat} (hn : l.length = n + 1) (h : DnI (swp l 0 n) l' n i) : (l'.take n ++ [gv l 0]).Perm l := by
  have hl : l'.length = n + 1 := by rw [h.p.length_eq, swp_length]; exact hn
  have e : gv l' n = gv l 0 := by
    rw [h.tl n (Nat.le_refl _), gv_swp (by omega) (by omega), if_pos rfl]
  rw [← e, ← split_last hl]
  exact h.p.trans (swp_count (by omega) (by omega))
end Go.Proofs.Ytnkllgpibmofiaa
