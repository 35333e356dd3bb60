/- What a note does to a disk, said without memory. No walk stands here. -/
import Derived.Test.YtdcoeebpknipdaaNtM
namespace Go.Proofs.Ytdcoeebpknipdaa
open Go.RowKit Go.Maps Go.Sort

def nS (k : Nat) (nm t b : Str) (s : St) : Nat × St :=
  if k < 3 then s.append nm b else if k = 3 then s.sync nm else if k = 4 then s.remove nm else s.rename nm t
/-- Is the call counted, and does the power go off at it? -/
def cnt (k : Nat) (nm : Str) (s : St) : Bool := decide (k < 3) || hasF s.fs nm
def hit (s : St) : Bool := s.set && decide ((s.ops : Int) = s.op)
theorem count_miss {s : St} (h : hit s = false) : s.count = (0, s.tick) := by
  unfold St.count
  unfold hit at h
  rw [if_neg]
  rintro ⟨h1, h2⟩
  rw [h1, decide_eq_true h2] at h
  cases h
theorem count_hit {s : St} (h : hit s = true) (ho : s.off = false) : s.count.1 = 122 ∧ s.count.2.off = true ∧ s.count.2.ops = s.ops + 1 := by
  unfold hit at h
  rw [Bool.and_eq_true, decide_eq_true_eq] at h
  unfold St.count
  rw [if_pos h]
  unfold St.cut St.tick
  simp [ho]
theorem rfF_yes {s : St} {nm : Str} {ns : List Str} (ho : s.off = false) (hn : (ns ++ [nm]).all isNm = true) (hh : hasF s.fs nm = true) : rfF s nm ns = 0 := by
  unfold rfF rfC
  simp [ho, hn, hh]
theorem rfF_no {s : St} {nm : Str} {ns : List Str} (ho : s.off = false) (hn : (ns ++ [nm]).all isNm = true) (hh : hasF s.fs nm = false) : rfF s nm ns = 120 := by
  unfold rfF rfC
  simp [ho, hn, hh]
theorem begins_yes {s : St} {nm : Str} {ns : List Str} (ho : s.off = false) (hn : (ns ++ [nm]).all isNm = true) (hh : hasF s.fs nm = true) : s.begins nm ns = s.count := by
  unfold St.begins
  rw [rfF_yes ho hn hh]
  simp
theorem begins_no {s : St} {nm : Str} {ns : List Str} (ho : s.off = false) (hn : (ns ++ [nm]).all isNm = true) (hh : hasF s.fs nm = false) : s.begins nm ns = (120, s) := by
  unfold St.begins
  rw [rfF_no ho hn hh]
  simp
theorem nS_miss {k : Nat} {nm t b : Str} {s : St} (ho : s.off = false) (hn : isNm nm = true) (ht : isNm t = true) (hl : s.fs.length < 1000) (hc : cnt k nm s = true) (hh : hit s = false) :
    nS k nm t b s = (0, { s with fs := nF k nm t b s.fs, ops := s.ops + 1 }) := by
  unfold nS nF
  unfold cnt at hc
  by_cases h3 : k < 3
  · rw [if_pos h3, if_pos h3]
    unfold St.append
    have e1 : rfC s [nm] = 0 := by unfold rfC; simp [ho, hn]
    rw [e1]
    simp only [ne_eq, not_true, if_false]
    rw [if_neg (by omega), count_miss (by exact hh)]
    rfl
  · rw [if_neg h3, if_neg h3]
    rw [decide_eq_false h3, Bool.false_or] at hc
    by_cases h4 : k = 3
    · rw [if_pos h4, if_pos h4]
      unfold St.sync
      rw [begins_yes ho (by simp [hn]) hc, count_miss hh]
      rfl
    · rw [if_neg h4, if_neg h4]
      by_cases h5 : k = 4
      · rw [if_pos h5, if_pos h5]
        unfold St.remove
        rw [begins_yes ho (by simp [hn]) hc, count_miss hh]
        rfl
      · rw [if_neg h5, if_neg h5]
        unfold St.rename
        rw [begins_yes ho (by simp [hn, ht]) hc, count_miss hh]
        rfl
theorem nS_hit {k : Nat} {nm t b : Str} {s : St} (ho : s.off = false) (hn : isNm nm = true) (ht : isNm t = true) (hl : s.fs.length < 1000) (hc : cnt k nm s = true) (hh : hit s = true) :
    (nS k nm t b s).1 = 122 ∧ (nS k nm t b s).2.off = true ∧ (nS k nm t b s).2.ops = s.ops + 1 := by
  unfold nS
  unfold cnt at hc
  by_cases h3 : k < 3
  · rw [if_pos h3]
    unfold St.append
    have e1 : rfC s [nm] = 0 := by unfold rfC; simp [ho, hn]
    rw [e1]
    simp only [ne_eq, not_true, if_false]
    rw [if_neg (by omega)]
    exact count_hit (by exact hh) ho
  · rw [if_neg h3]
    rw [decide_eq_false h3, Bool.false_or] at hc
    have hk := count_hit hh ho
    by_cases h4 : k = 3
    · rw [if_pos h4]
      unfold St.sync
      rw [begins_yes ho (by simp [hn]) hc, if_pos (by rw [hk.1]; decide)]
      exact hk
    · rw [if_neg h4]
      by_cases h5 : k = 4
      · rw [if_pos h5]
        unfold St.remove
        rw [begins_yes ho (by simp [hn]) hc, if_pos (by rw [hk.1]; decide)]
        exact hk
      · rw [if_neg h5]
        unfold St.rename
        rw [begins_yes ho (by simp [hn, ht]) hc, if_pos (by rw [hk.1]; decide)]
        exact hk
theorem nS_none {k : Nat} {nm t b : Str} {s : St} (ho : s.off = false) (hn : isNm nm = true) (ht : isNm t = true) (hc : cnt k nm s = false) : nS k nm t b s = (120, s) := by
  unfold cnt at hc
  rw [Bool.or_eq_false_iff, decide_eq_false_iff_not] at hc
  unfold nS
  rw [if_neg hc.1]
  by_cases h4 : k = 3
  · rw [if_pos h4]
    unfold St.sync
    rw [begins_no ho (by simp [hn]) hc.2]
    rfl
  · rw [if_neg h4]
    by_cases h5 : k = 4
    · rw [if_pos h5]
      unfold St.remove
      rw [begins_no ho (by simp [hn]) hc.2]
      rfl
    · rw [if_neg h5]
      unfold St.rename
      rw [begins_no ho (by simp [hn, ht]) hc.2]
      rfl
/-- The names that a note gives. -/
structure Nms (l : List Fl) : Prop where
  nd : Nd l
  in' : ∀ f ∈ l, f.nm ∈ nmL
theorem Nms.few {l : List Fl} (h : Nms l) : l.length ≤ 5 := by
  have h1 : (l.map Fl.nm).Nodup := by
    unfold List.Nodup
    exact List.pairwise_map.2 h.nd
  have h2 : (l.map Fl.nm) ⊆ nmL := fun x hx => by
    obtain ⟨f, hf, rfl⟩ := List.mem_map.1 hx
    exact h.in' f hf
  have := List.Nodup.length_le_of_subset h1 h2
  simpa [nmL] using this
theorem Nms.perm {l m : List Fl} (h : Nms l) (p : l.Perm m) : Nms m := ⟨h.nd.perm p, fun f hf => h.in' f (p.mem_iff.2 hf)⟩
theorem nd_map {l : List Fl} (h : Nd l) (g : Fl → Fl) (hg : ∀ f, (g f).nm = f.nm) : Nd (l.map g) := by
  unfold Nd
  rw [List.pairwise_map]
  exact List.Pairwise.imp (fun {a b} h => by rw [hg, hg]; exact h) h
theorem nd_filter {l : List Fl} (h : Nd l) (p : Fl → Bool) : Nd (l.filter p) := List.Pairwise.filter p h
theorem nms_map {l : List Fl} (h : Nms l) (g : Fl → Fl) (hg : ∀ f, (g f).nm = f.nm) : Nms (l.map g) := ⟨nd_map h.nd g hg, fun f hf => by
  obtain ⟨x, hx, rfl⟩ := List.mem_map.1 hf
  rw [hg]
  exact h.in' x hx⟩
theorem nms_nF {k : Nat} {nm t b : Str} {l : List Fl} (h : Nms l) (hn : nm ∈ nmL) (ht : t ∈ nmL) : Nms (nF k nm t b l) := by
  have hadd : ∀ (l : List Fl), Nms l → Nms (addF l nm b) := fun l h => nms_map h _ fun f => by split <;> rfl
  unfold nF
  split
  · refine hadd _ ?_
    unfold opnF
    split
    · exact h
    · rename_i hh
      have hno := hasF_no.1 (by simpa using hh)
      refine ⟨?_, fun f hf => ?_⟩
      · unfold Nd
        rw [List.pairwise_append]
        refine ⟨h.nd, List.pairwise_singleton _ _, fun a ha c hc => ?_⟩
        simp only [List.mem_singleton] at hc
        subst hc
        exact hno a ha
      · rcases List.mem_append.1 hf with hf | hf
        · exact h.in' f hf
        · simp only [List.mem_singleton] at hf
          subst hf
          exact hn
  · split
    · exact nms_map h _ fun f => by split <;> rfl
    · split
      · exact ⟨nd_filter h.nd _, fun f hf => h.in' f (List.mem_filter.1 hf).1⟩
      · unfold movF
        have hg : Nd (gotF l nm) := nd_filter h.nd _
        refine ⟨?_, fun f hf => ?_⟩
        · unfold Nd
          rw [List.pairwise_append]
          refine ⟨nd_filter (nd_filter h.nd _) _, ?_, fun a ha c hc => ?_⟩
          · rw [List.pairwise_map]
            have hall : ∀ x ∈ gotF l nm, x.nm = nm := fun x hx => by simpa using (List.mem_filter.1 hx).2
            refine List.Pairwise.imp_of_mem (fun {a b} ha hb h => ?_) hg
            exact absurd ((hall a ha).trans (hall b hb).symm) h
          · obtain ⟨x, hx, rfl⟩ := List.mem_map.1 hc
            have := (List.mem_filter.1 ha).2
            simpa using this
        · rcases List.mem_append.1 hf with hf | hf
          · exact h.in' f (List.mem_filter.1 (List.mem_filter.1 hf).1).1
          · obtain ⟨x, hx, rfl⟩ := List.mem_map.1 hf
            exact ht
end Go.Proofs.Ytdcoeebpknipdaa
