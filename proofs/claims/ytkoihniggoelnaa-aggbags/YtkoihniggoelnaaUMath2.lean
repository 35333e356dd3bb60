/- Rising texts and their union. No program stands here. -/
import Derived.Test.YtkoihniggoelnaaUMath
namespace Go.Proofs.Ytkoihniggoelnaa
open Go.RowKit Go.Sort

/-- Texts that rise. -/
def Ris (l : List Str) : Prop := l.Pairwise (· < ·)
theorem lt_irr (a : Str) : ¬ a < a := List.lt_irrefl a
theorem lt_tr {a b c : Str} (h : a < b) (k : b < c) : a < c := List.lt_trans h k
theorem eq_of_not {a b : Str} (h : ¬ a < b) (k : ¬ b < a) : a = b := List.le_antisymm (List.not_lt.1 k) (List.not_lt.1 h)
theorem lt_of_le_ne {a b : Str} (h : ¬ b < a) (k : a ≠ b) : a < b := Classical.byContradiction fun x => k (eq_of_not x h)
theorem Ris.ext {l m : List Str} (hl : Ris l) (hm : Ris m) (h : ∀ t, t ∈ l ↔ t ∈ m) : l = m := by
  have nd : ∀ {k : List Str}, Ris k → k.Nodup := fun {k} hk => hk.imp fun hab e => by subst e; exact lt_irr _ hab
  exact List.Perm.eq_of_pairwise (le := (· < ·)) (fun a b _ _ h1 h2 => absurd (lt_tr h1 h2) (lt_irr a)) hl hm ((List.perm_ext_iff_of_nodup (nd hl) (nd hm)).2 h)
theorem bsGo_in (less : Nat → Bool) (n k : Nat) (h1 : ∀ t, t < k → less t = true) (h2 : ∀ t, k ≤ t → t < n → less t = false) : ∀ (f lo hi : Nat), hi - lo ≤ f → lo ≤ k → k ≤ hi → hi ≤ n → Lib.bsGo less f lo hi = k
  | 0, lo, hi, hf, a, b, c => by simp [Lib.bsGo]; omega
  | f + 1, lo, hi, hf, a, b, c => by
    unfold Lib.bsGo
    by_cases h : lo < hi
    · rw [if_pos h]
      by_cases hm : (lo + hi) / 2 < k
      · rw [h1 _ hm, if_pos rfl]; exact bsGo_in less n k h1 h2 f _ _ (by omega) (by omega) b c
      · rw [h2 _ (by omega) (by omega)]; exact bsGo_in less n k h1 h2 f _ _ (by omega) a (by omega) (by omega)
    · rw [if_neg h]; omega
/-- Rising texts are cut in two by a text. -/
theorem ris_cut : ∀ (l : List Str) (x : Str), Ris l → ∃ a b, l = a ++ b ∧ (∀ t ∈ a, t < x) ∧ (∀ t ∈ b, ¬ t < x)
  | [], x, _ => ⟨[], [], rfl, by simp, by simp⟩
  | y :: l, x, h => by
    have h' := List.pairwise_cons.1 h
    by_cases hy : y < x
    · obtain ⟨a, b, rfl, ha, hb⟩ := ris_cut l x h'.2
      refine ⟨y :: a, b, rfl, fun t ht => ?_, hb⟩
      rcases List.mem_cons.1 ht with rfl | ht
      · exact hy
      · exact ha t ht
    · refine ⟨[], y :: l, rfl, by simp, fun t ht => ?_⟩
      rcases List.mem_cons.1 ht with rfl | ht
      · exact hy
      · exact fun k => hy (lt_tr (h'.1 t ht) k)
theorem bsL_cut (a b : List Str) (x : Str) (ha : ∀ t ∈ a, t < x) (hb : ∀ t ∈ b, ¬ t < x) : bsL (a ++ b) x = a.length := by
  refine bsGo_in _ (a ++ b).length a.length ?_ ?_ _ _ _ (by omega) (by omega) (by simp) (by simp)
  · intro t ht
    rw [bytesLess_eq]
    refine decide_eq_true (ha _ ?_)
    rw [List.getD_eq_getElem?_getD, List.getElem?_append_left ht, List.getElem?_eq_getElem ht]
    exact List.getElem_mem ht
  · intro t h1 h2
    rw [bytesLess_eq]
    refine decide_eq_false (hb _ ?_)
    have h3 : t - a.length < b.length := by simp at h2; omega
    rw [List.getD_eq_getElem?_getD, List.getElem?_append_right h1, List.getElem?_eq_getElem h3]
    exact List.getElem_mem h3
/-- One text more: what lies ahead of it, and what behind. -/
theorem ust_cut (o m : List Str) (x : Str) (hm : Ris m) : ∃ a d, ust (o, m) x = (o ++ a ++ [x], d) ∧ (∀ t ∈ a, t < x) ∧ (∀ t ∈ d, x < t) ∧ Ris a ∧ Ris d ∧ (∀ t, t ∈ m ∨ t = x ↔ t ∈ a ∨ t = x ∨ t ∈ d) := by
  obtain ⟨a, b, rfl, ha, hb⟩ := ris_cut m x hm
  have hbs := bsL_cut a b x ha hb
  have hr := List.pairwise_append.1 hm
  unfold ust fndL
  simp only [hbs]
  have ht : (a ++ b).take a.length = a := by simp
  rw [ht]
  cases b with
  | nil =>
    refine ⟨a, [], ?_, ha, by simp, hr.1, by simp [Ris], by simp⟩
    simp
  | cons y b =>
    have hy : (a ++ y :: b).getD a.length [] = y := by rw [List.getD_eq_getElem?_getD, List.getElem?_append_right (Nat.le_refl _)]; simp
    have hr2 := List.pairwise_cons.1 hr.2.1
    by_cases he : y = x
    · subst he
      refine ⟨a, b, ?_, ha, hr2.1, hr.1, hr2.2, ?_⟩
      · rw [hy]; simp [List.drop_append]
      · intro t; simp only [List.mem_append, List.mem_cons]; constructor
        · rintro ((h | h | h) | h) <;> simp [h]
        · rintro (h | h | h) <;> simp [h]
    · have hxy : x < y := lt_of_le_ne (hb y (by simp)) (fun e => he e.symm)
      refine ⟨a, y :: b, ?_, ha, ?_, hr.1, hr.2.1, ?_⟩
      · rw [hy]; simp [he]
      · intro t ht
        rcases List.mem_cons.1 ht with rfl | ht
        · exact hxy
        · exact lt_tr hxy (hr2.1 t ht)
      · intro t; simp only [List.mem_append, List.mem_cons]; constructor
        · rintro ((h | h | h) | h) <;> simp [h]
        · rintro (h | h | h | h) <;> simp [h]
theorem ustf_ris : ∀ (few o m : List Str), Ris few → Ris m → ∃ R, (few.foldl ust (o, m)).1 ++ (few.foldl ust (o, m)).2 = o ++ R ∧ Ris R ∧ ∀ t, t ∈ R ↔ t ∈ m ∨ t ∈ few
  | [], o, m, _, hm => ⟨m, rfl, hm, by simp⟩
  | x :: few, o, m, hf, hm => by
    have hf' := List.pairwise_cons.1 hf
    obtain ⟨a, d, he, ha, hd, ra, rd, hmem⟩ := ust_cut o m x hm
    obtain ⟨R, hR, rR, mR⟩ := ustf_ris few (o ++ a ++ [x]) d hf'.2 rd
    have hgt : ∀ t ∈ R, x < t := fun t ht => by
      rcases (mR t).1 ht with h | h
      · exact hd t h
      · exact hf'.1 t h
    refine ⟨a ++ x :: R, ?_, ?_, ?_⟩
    · rw [List.foldl_cons, he, hR]; simp
    · refine List.pairwise_append.2 ⟨ra, List.pairwise_cons.2 ⟨hgt, rR⟩, fun t ht u hu => ?_⟩
      rcases List.mem_cons.1 hu with rfl | hu
      · exact ha t ht
      · exact lt_tr (ha t ht) (hgt u hu)
    · intro t
      have := hmem t
      simp only [List.mem_append, List.mem_cons, mR]
      constructor
      · rintro (h | h | h | h)
        · rcases this.2 (.inl h) with k | k
          · exact .inl k
          · exact .inr (.inl k)
        · exact .inr (.inl h)
        · rcases this.2 (.inr (.inr h)) with k | k
          · exact .inl k
          · exact .inr (.inl k)
        · exact .inr (.inr h)
      · rintro (h | h | h)
        · rcases this.1 (.inl h) with k | k | k
          · exact .inl k
          · exact .inr (.inl k)
          · exact .inr (.inr (.inl k))
        · exact .inr (.inl h)
        · exact .inr (.inr (.inr h))
theorem uniA_ris {a b : List Str} (ha : Ris a) (hb : Ris b) : Ris (uniA a b) ∧ ∀ t, t ∈ uniA a b ↔ t ∈ a ∨ t ∈ b := by
  obtain ⟨R, hR, rR, mR⟩ := ustf_ris b [] a hb ha
  unfold uniA
  rw [hR, List.nil_append]
  exact ⟨rR, mR⟩
theorem uniL_ris {a b : List Str} (ha : Ris a) (hb : Ris b) : Ris (uniL a b) ∧ ∀ t, t ∈ uniL a b ↔ t ∈ a ∨ t ∈ b := by
  unfold uniL
  split
  · have := uniA_ris hb ha
    exact ⟨this.1, fun t => (this.2 t).trans Or.comm⟩
  · exact uniA_ris ha hb
theorem uniL_comm {a b : List Str} (ha : Ris a) (hb : Ris b) : uniL a b = uniL b a :=
  Ris.ext (uniL_ris ha hb).1 (uniL_ris hb ha).1 fun t => by rw [(uniL_ris ha hb).2, (uniL_ris hb ha).2]; exact Or.comm
theorem uniL_assoc {a b c : List Str} (ha : Ris a) (hb : Ris b) (hc : Ris c) : uniL (uniL a b) c = uniL a (uniL b c) := by
  have h1 := uniL_ris ha hb
  have h2 := uniL_ris hb hc
  refine Ris.ext (uniL_ris h1.1 hc).1 (uniL_ris ha h2.1).1 fun t => ?_
  rw [(uniL_ris h1.1 hc).2, (uniL_ris ha h2.1).2, h1.2, h2.2]; exact or_assoc
theorem uniL_self {a : List Str} (ha : Ris a) : uniL a a = a := Ris.ext (uniL_ris ha ha).1 ha fun t => by rw [(uniL_ris ha ha).2]; simp
theorem uniL_len (a b : List Str) : (uniL a b).length ≤ a.length + b.length := by
  unfold uniL uniA
  split
  · have := ustf_length a ([], b); simp only [List.length_append] at this ⊢; simp at this; omega
  · have := ustf_length b ([], a); simp only [List.length_append] at this ⊢; simp at this; omega
end Go.Proofs.Ytkoihniggoelnaa
