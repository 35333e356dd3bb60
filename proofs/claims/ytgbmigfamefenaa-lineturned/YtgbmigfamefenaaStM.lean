/- What stretches does, edge by edge. No walk stands here. -/
import Derived.Test.YtgbmigfamefenaaGoP
namespace Go.Proofs.Ytgbmigfamefenaa
set_option linter.unusedVariables false

/-- The edge at a place, or all times' end. -/
def eb (E : List Int) (M : Int) (j : Nat) : Int := if h : j < E.length then E[j] else M
theorem eb_in {E : List Int} {M : Int} {j : Nat} (h : j < E.length) : eb E M j = E[j] := by unfold eb; rw [dif_pos h]
theorem eb_out {E : List Int} {M : Int} {j : Nat} (h : ¬ j < E.length) : eb E M j = M := by unfold eb; rw [dif_neg h]
/-- Sets as they come in: rising, none empty, within M. -/
structure Cmg (ks : List K3) (M : Int) : Prop where
  rise : ks.Pairwise Stn
  ne : ∀ k ∈ ks, k.1 < k.2.1
  le : ∀ k ∈ ks, k.2.1 ≤ M
/-- While sets that begin at e are put in. -/
structure StJ (ks : List K3) (e : Int) (c : Nat) (bg : List K3) : Prop where
  cl : c ≤ ks.length
  old : ∀ k ∈ ks.take c, k.1 ≤ e
  new : ∀ k ∈ ks.drop c, e ≤ k.1
  rk : Rks bg
  sub : ∀ k ∈ bg, k ∈ ks.take c
  all : ∀ k ∈ ks.take c, e < k.2.1 → k ∈ bg
  len : bg.length ≤ c
/-- At an edge. -/
structure StI (ks : List K3) (E : List Int) (M : Int) (j c : Nat) (bg : List K3) (out : List S3) : Prop where
  say : Say ks out (eb E M j)
  cl : c ≤ ks.length
  old : ∀ k ∈ ks.take c, k.1 < eb E M j
  new : ∀ k ∈ ks.drop c, eb E M j ≤ k.1
  rk : Rks bg
  sub : ∀ k ∈ bg, k ∈ ks.take c
  all : ∀ k ∈ ks.take c, eb E M j < k.2.1 → k ∈ bg
  len : bg.length ≤ c
  ol : out.length ≤ j
theorem stn_le {a b : K3} (h : Stn a b) : a.1 ≤ b.1 := by unfold Stn at h; omega
theorem stn_ne {a b : K3} (h : Stn a b) : a ≠ b := fun q => by subst q; unfold Stn at h; omega
theorem eb_lt {E : List Int} {M : Int} (hE : E.Pairwise (· < ·)) (hM : ∀ x ∈ E, x ≤ M) {j : Nat} (hj : j < E.length) (hl : j + 1 < E.length ∨ E[j] < M) : E[j] < eb E M (j + 1) := by
  by_cases h : j + 1 < E.length
  · rw [eb_in h]; exact List.pairwise_iff_getElem.1 hE j (j + 1) hj h (by omega)
  · rw [eb_out h]; rcases hl with q | q
    · exact absurd q h
    · exact q
/-- An edge behind another one. -/
theorem eb_next {E : List Int} {M : Int} (hE : E.Pairwise (· < ·)) {j : Nat} (hj : j < E.length) {x : Int} (hx : x ∈ E) (h : E[j] < x) : ∃ h1 : j + 1 < E.length, E[j + 1] ≤ x := by
  obtain ⟨i, hi, rfl⟩ := List.mem_iff_getElem.1 hx
  have hji : j < i := by
    by_cases q : j < i
    · exact q
    · exfalso
      by_cases q2 : i = j
      · subst q2; omega
      · have := List.pairwise_iff_getElem.1 hE i j hi hj (by omega)
        omega
  refine ⟨by omega, ?_⟩
  by_cases q : j + 1 = i
  · subst q; exact Int.le_refl _
  · exact Int.le_of_lt (List.pairwise_iff_getElem.1 hE (j + 1) i (by omega) hi (by omega))
theorem eb_le0 {E : List Int} {M : Int} (hE : E.Pairwise (· < ·)) (hM : ∀ x ∈ E, x ≤ M) {x : Int} (hx : x ∈ E) : eb E M 0 ≤ x := by
  obtain ⟨i, hi, rfl⟩ := List.mem_iff_getElem.1 hx
  have h0 : 0 < E.length := by omega
  rw [eb_in h0]
  by_cases q : i = 0
  · subst q; exact Int.le_refl _
  · exact Int.le_of_lt (List.pairwise_iff_getElem.1 hE 0 i h0 hi (by omega))
section
variable {ks : List K3} {E : List Int} {M : Int}
theorem edge_le (hC : Cmg ks M) (hE : Edges ks E) : ∀ x ∈ E, x ≤ M := fun x hx => by
  obtain ⟨k, hk, q⟩ := (hE.mem x).1 hx
  have h1 := hC.ne k hk
  have h2 := hC.le k hk
  rcases q with q | q <;> omega
theorem StI.start (hC : Cmg ks M) (hE : Edges ks E) : StI ks E M 0 0 [] [] :=
  ⟨Say.start _ _ fun k hk => eb_le0 hE.rise (edge_le hC hE) ((hE.mem _).2 ⟨k, hk, .inl rfl⟩), Nat.zero_le _, (fun _ h => by simp at h), (fun k hk => eb_le0 hE.rise (edge_le hC hE) ((hE.mem _).2 ⟨k, by simpa using hk, .inl rfl⟩)), List.Pairwise.nil, (fun _ h => by simp at h), (fun _ h => by simp at h), Nat.zero_le _, Nat.zero_le _⟩
theorem StI.enter {j c : Nat} {bg : List K3} {out : List S3} (h : StI ks E M j c bg out) (hj : j < E.length) : StJ ks E[j] c bg := by
  have e := eb_in (M := M) hj
  exact ⟨h.cl, fun k hk => by have := h.old k hk; omega, fun k hk => by have := h.new k hk; omega, h.rk, h.sub, fun k hk q => h.all k hk (by rw [e]; exact q), h.len⟩
theorem StJ.put (hC : Cmg ks M) {e : Int} {c : Nat} {bg : List K3} (h : StJ ks e c bg) (hc : c < ks.length) (he : ks[c].1 = e) : StJ ks e (c + 1) (putK ks[c] bg) := by
  have ht : ks.take (c + 1) = ks.take c ++ [ks[c]] := List.take_succ_eq_append_getElem hc
  have hd : ks.drop c = ks[c] :: ks.drop (c + 1) := List.drop_eq_getElem_cons hc
  have hnot : ks[c] ∉ bg := fun q => by
    have h1 := h.sub _ q
    obtain ⟨i, hi, e1⟩ := List.mem_iff_getElem.1 h1
    have hi' : i < c := by rw [List.length_take] at hi; omega
    rw [List.getElem_take] at e1
    exact stn_ne (List.pairwise_iff_getElem.1 hC.rise i c (by omega) hc hi') e1
  refine ⟨hc, fun k hk => ?_, fun k hk => h.new k (by rw [hd]; exact List.mem_cons_of_mem _ hk), rks_putK _ _ h.rk hnot, fun k hk => ?_, fun k hk q => ?_, by rw [putK_len]; have := h.len; omega⟩
  · rw [ht] at hk
    rcases List.mem_append.1 hk with q | q
    · exact h.old k q
    · rw [List.mem_singleton.1 q]; omega
  · rw [ht]
    rcases (mem_putK _ _ _).1 hk with q | q
    · rw [q]; exact List.mem_append_right _ (List.mem_singleton.2 rfl)
    · exact List.mem_append_left _ (h.sub k q)
  · rw [ht] at hk
    rw [mem_putK]
    rcases List.mem_append.1 hk with r | r
    · exact .inr (h.all k r q)
    · exact .inl (List.mem_singleton.1 r)
/-- None of those that come begins at e. -/
theorem StJ.rest (hC : Cmg ks M) {e : Int} {c : Nat} {bg : List K3} (h : StJ ks e c bg) (hc : ∀ hc : c < ks.length, ks[c].1 ≠ e) : ∀ k ∈ ks.drop c, e < k.1 := by
  intro k hk
  obtain ⟨i, hi, rfl⟩ := List.mem_iff_getElem.1 hk
  rw [List.length_drop] at hi
  have hcl : c < ks.length := by omega
  have h0 : e ≤ ks[c].1 := h.new _ (by rw [List.drop_eq_getElem_cons hcl]; exact List.mem_cons_self ..)
  have h1 := hc hcl
  rw [List.getElem_drop]
  by_cases q : i = 0
  · subst q; simp only [Nat.add_zero]; omega
  · have := stn_le (List.pairwise_iff_getElem.1 hC.rise c (c + i) hcl (by omega) (by omega))
    omega
theorem StJ.skip (hC : Cmg ks M) (hE : Edges ks E) {j c : Nat} {bg : List K3} {out : List S3} (hj : j < E.length) (hs : Say ks out (eb E M j)) (hol : out.length ≤ j) (h : StJ ks E[j] c bg) (hr : ∀ k ∈ ks.drop c, E[j] < k.1) (hf : ∀ i (hi : i < bg.length), ¬ E[j] < bg[i].2.1) : StI ks E M (j + 1) c [] out := by
  have hle := edge_le hC hE
  have hee : E[j] ≤ eb E M (j + 1) := by
    by_cases q : j + 1 < E.length
    · exact Int.le_of_lt (eb_lt hE.rise hle hj (.inl q))
    · rw [eb_out q]; exact hle _ (List.getElem_mem hj)
  have hold : ∀ k ∈ ks.take c, k.2.1 ≤ E[j] := fun k hk => by
    by_cases q : E[j] < k.2.1
    · obtain ⟨i, hi, e⟩ := List.mem_iff_getElem.1 (h.all k hk q)
      exact absurd (by rw [e]; exact q) (hf i hi)
    · omega
  have hnew : ∀ k ∈ ks.drop c, eb E M (j + 1) ≤ k.1 := fun k hk => by
    obtain ⟨h1, h2⟩ := eb_next (M := M) hE.rise hj ((hE.mem _).2 ⟨k, List.mem_of_mem_drop hk, .inl rfl⟩) (hr k hk)
    rw [eb_in h1]; exact h2
  refine ⟨?_, h.cl, fun k hk => ?_, hnew, List.Pairwise.nil, (fun _ h => by simp at h), fun k hk q => ?_, Nat.zero_le _, by omega⟩
  · rw [eb_in hj] at hs
    refine hs.skip hee fun x h1 h2 k hk hh => ?_
    unfold Hl at hh
    rw [← List.take_append_drop c ks] at hk
    rcases List.mem_append.1 hk with q | q
    · have := hold k q; omega
    · have := hnew k q; omega
  · have h1 := hold k hk
    have h2 := hC.ne k (List.mem_of_mem_take hk)
    omega
  · have := hold k hk
    omega
theorem StJ.goes (hC : Cmg ks M) (hE : Edges ks E) {j c : Nat} {bg : List K3} {out : List S3} (hj : j < E.length) (hs : Say ks out (eb E M j)) (hol : out.length ≤ j) (h : StJ ks E[j] c bg) (hr : ∀ k ∈ ks.drop c, E[j] < k.1) {i : Nat} (hi : i < bg.length) (hk : E[j] < bg[i].2.1) (hf : ∀ t (ht : t < bg.length), t < i → ¬ E[j] < bg[t].2.1) :
    ∃ h1 : j + 1 < E.length, StI ks E M (j + 1) c (bg.drop i) (goF out bg[i] E[j] E[j + 1]) := by
  have hmem : bg[i] ∈ ks.take c := h.sub _ (List.getElem_mem hi)
  have hks : bg[i] ∈ ks := List.mem_of_mem_take hmem
  obtain ⟨h1, h2⟩ := eb_next (M := M) hE.rise hj ((hE.mem _).2 ⟨bg[i], hks, .inr rfl⟩) hk
  have hlt : E[j] < E[j + 1] := List.pairwise_iff_getElem.1 hE.rise j (j + 1) hj h1 (by omega)
  refine ⟨h1, ?_⟩
  have e1 := eb_in (M := M) h1
  have hin : ∀ k ∈ ks.take c, E[j] < k.2.1 → ∃ t, ∃ ht : t < bg.length, bg[t] = k ∧ i ≤ t := fun k hk q => by
    obtain ⟨t, ht, e⟩ := List.mem_iff_getElem.1 (h.all k hk q)
    refine ⟨t, ht, e, ?_⟩
    by_cases r : t < i
    · exact absurd (by rw [e]; exact q) (hf t ht r)
    · omega
  refine ⟨?_, h.cl, fun k hk => ?_, fun k hk => ?_, ?_, fun k hk => h.sub k (List.mem_of_mem_drop hk), fun k hk q => ?_, by rw [List.length_drop]; have := h.len; omega, ?_⟩
  · rw [eb_in hj] at hs
    rw [e1]
    refine hs.goF hlt fun x q1 q2 => ⟨hks, ?_, fun o ho hh => ?_⟩
    · have := h.old _ hmem
      unfold Hl
      omega
    · unfold Hl at hh
      have ho' : o ∈ ks.take c := by
        rw [← List.take_append_drop c ks] at ho
        rcases List.mem_append.1 ho with r | r
        · exact r
        · have h3 := hr o r
          obtain ⟨h4, h5⟩ := eb_next (M := M) hE.rise hj ((hE.mem _).2 ⟨o, List.mem_of_mem_drop r, .inl rfl⟩) h3
          omega
      obtain ⟨t, ht, e, hit⟩ := hin o ho' (by omega)
      by_cases r : t = i
      · subst r; exact .inl e.symm
      · exact .inr (by rw [← e]; exact List.pairwise_iff_getElem.1 h.rk i t hi ht (by omega))
  · rw [e1]; have := h.old k hk; omega
  · obtain ⟨h4, h5⟩ := eb_next (M := M) hE.rise hj ((hE.mem _).2 ⟨k, List.mem_of_mem_drop hk, .inl rfl⟩) (hr k hk)
    rw [e1]; exact h5
  · exact h.rk.sublist (List.drop_sublist _ _)
  · rw [e1] at q
    obtain ⟨t, ht, e, hit⟩ := hin k hk (by omega)
    rw [← e]
    rw [List.mem_iff_getElem]
    exact ⟨t - i, by rw [List.length_drop]; omega, by rw [List.getElem_drop]; congr 1; omega⟩
  · unfold goF
    cases hl : out.getLast? with
    | none => simp; omega
    | some s =>
      simp only
      split
      · have : out.length ≠ 0 := fun q => by rw [List.eq_nil_of_length_eq_zero q] at hl; cases hl
        simp; omega
      · simp; omega
theorem StI.fin {c : Nat} {bg : List K3} {out : List S3} (h : StI ks E M E.length c bg out) : Say ks out M := by
  have := h.say
  rw [eb_out (by omega)] at this
  exact this
end
end Go.Proofs.Ytgbmigfamefenaa
