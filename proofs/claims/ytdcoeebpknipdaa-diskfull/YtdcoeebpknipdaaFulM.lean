/- Plain mathematics of a full disk. No walk stands here. -/
import Derived.Test.YtdcoeebpknipdaaNum
namespace Go.Proofs.Ytdcoeebpknipdaa
open Go.RowKit Go.Maps

theorem hasF_add (fs : List Fl) (nm b t : Str) : hasF (addF fs nm b) t = hasF fs t := by
  unfold hasF addF
  rw [List.any_map]
  congr 1
  funext f
  simp only [Function.comp]
  by_cases h : f.nm = nm
  · rw [if_pos h]
  · rw [if_neg h]
theorem hasF_snoc (fs : List Fl) (f : Fl) (t : Str) : hasF (fs ++ [f]) t = (hasF fs t || f.nm == t) := by
  unfold hasF
  rw [List.any_append]
  simp
theorem hasF_del (fs : List Fl) (nm t : Str) : hasF (delF fs nm) t = (hasF fs t && !(t == nm)) := by
  unfold hasF delF
  rw [Bool.eq_iff_iff]
  simp only [List.any_eq_true, List.mem_filter, Bool.and_eq_true, Bool.not_eq_true', beq_eq_false_iff_ne, beq_iff_eq, ne_eq]
  constructor
  · rintro ⟨x, ⟨h1, h2⟩, rfl⟩
    exact ⟨⟨x, h1, rfl⟩, h2⟩
  · rintro ⟨⟨x, h1, rfl⟩, h2⟩
    exact ⟨x, ⟨h1, h2⟩, rfl⟩
theorem addF_nil (fs : List Fl) (nm : Str) : addF fs nm [] = fs := by
  unfold addF
  conv => rhs; rw [← List.map_id fs]
  refine List.map_congr_left fun f _ => ?_
  by_cases h : f.nm = nm
  · rw [if_pos h, List.append_nil]; rfl
  · rw [if_neg h]; rfl
theorem addF_length (fs : List Fl) (nm b : Str) : (addF fs nm b).length = fs.length := by simp [addF]
theorem hasF_false {fs : List Fl} {t : Str} (h : ∀ f ∈ fs, f.nm ≠ t) : hasF fs t = false := by
  unfold hasF
  rw [List.any_eq_false]
  intro f hf
  simp
  exact h f hf
theorem gotF_add (fs : List Fl) (nm b : Str) : gotF (addF fs nm b) nm = (gotF fs nm).map fun f => ⟨f.nm, f.bs ++ b, f.sy⟩ := by
  unfold gotF addF
  induction fs with
  | nil => rfl
  | cons f fs ih =>
    by_cases h : f.nm = nm
    · rw [List.map_cons, if_pos h, List.filter_cons_of_pos (by simpa using h), List.filter_cons_of_pos (by simpa using h), List.map_cons, ih]
    · rw [List.map_cons, if_neg h, List.filter_cons_of_neg (by simpa using h), List.filter_cons_of_neg (by simpa using h), ih]
theorem bytF_add {fs : List Fl} {nm b : Str} (h : hasF fs nm = true) : bytF (addF fs nm b) nm = bytF fs nm ++ b := by
  unfold bytF
  rw [gotF_add]
  cases hg : gotF fs nm with
  | nil =>
    unfold hasF at h
    rw [List.any_eq_true] at h
    obtain ⟨f, hf, h1⟩ := h
    have : f ∈ gotF fs nm := List.mem_filter.2 ⟨hf, h1⟩
    rw [hg] at this
    cases this
  | cons f r => rfl
theorem Dk.del_len {w : World} {d N : Nat} {F : Nat → Prop} {s : St} (h : Dk w d F N s) (t : Str) : (delF s.fs t).length + (if hasF s.fs t then 1 else 0) = s.fs.length := by
  obtain ⟨mo, Z, hz⟩ := h
  have h1 := filter_len hz.ap t
  rw [← hz.fs]
  unfold delF
  rw [hasF_any, List.filter_map, List.length_map, List.length_map]
  exact h1
def fsK (k : Nat) : List Fl := (List.range k).map fun i => ⟨fnm i, [], 0⟩
def stK (k : Nat) : St := ⟨fsK k, k, false, false, 0, 0⟩
theorem fsK_length (k : Nat) : (fsK k).length = k := by simp [fsK]
theorem fsK_has {k j : Nat} (hj : j < 1000) (hk : k ≤ 1000) : hasF (fsK k) (fnm j) = decide (j < k) := by
  by_cases h : j < k
  · rw [decide_eq_true h]
    unfold hasF
    rw [List.any_eq_true]
    exact ⟨⟨fnm j, [], 0⟩, List.mem_map.2 ⟨j, List.mem_range.2 h, rfl⟩, by simp⟩
  · rw [decide_eq_false h]
    refine hasF_false fun f hf e => ?_
    obtain ⟨i, hi, rfl⟩ := List.mem_map.1 hf
    have := fnm_inj (by have := List.mem_range.1 hi; omega) hj e
    have := List.mem_range.1 hi
    omega
theorem fsK_g (k : Nat) : hasF (fsK k) [103] = false := hasF_false fun f hf e => by
  obtain ⟨i, hi, rfl⟩ := List.mem_map.1 hf
  have h1 : fnm i = [103] := e
  unfold fnm at h1
  injection h1 with h2
  exact absurd h2 (by decide)
theorem rfC_ok {s : St} {t : Str} (h1 : s.off = false) (h2 : isNm t = true) : rfC s [t] = 0 := by
  unfold rfC
  rw [h1]
  simp [h2]
theorem count_plain {s : St} (h : s.set = false) : s.count = (0, s.tick) := by unfold St.count; rw [h]; simp
theorem app_plain {s : St} {t b : Str} (h1 : s.off = false) (h2 : isNm t = true) (h3 : s.set = false) (h4 : hasF s.fs t = true ∨ s.fs.length < 1000) : s.append t b = (0, { s with fs := addF (opnF s.fs t) t b, ops := s.ops + 1 }) := by
  unfold St.append
  rw [if_neg (by rw [rfC_ok h1 h2]; decide), if_neg (by
    rintro ⟨h5, h6⟩
    rcases h4 with h4 | h4
    · rw [h4] at h5; cases h5
    · omega)]
  exact count_plain (s := { s with fs := addF (opnF s.fs t) t b }) h3
theorem app_full {s : St} {t b : Str} (h1 : s.off = false) (h2 : isNm t = true) (h4 : hasF s.fs t = false) (h5 : 1000 ≤ s.fs.length) : s.append t b = (1, s) := by
  unfold St.append
  rw [if_neg (by rw [rfC_ok h1 h2]; decide), if_pos ⟨h4, h5⟩]
theorem full_step {k : Nat} (h : k < 1000) : (stK k).append (fnm k) [] = (0, stK (k + 1)) := by
  rw [app_plain rfl (num_facts k h).2.1 rfl (.inr (by show (fsK k).length < 1000; rw [fsK_length]; exact h))]
  have e : addF (opnF (fsK k) (fnm k)) (fnm k) [] = fsK (k + 1) := by
    rw [addF_nil, opnF_has (by rw [fsK_has h (by omega)]; simp)]
    unfold fsK
    rw [List.range_succ, List.map_append]
    rfl
  show (0, (⟨addF (opnF (fsK k) (fnm k)) (fnm k) [], k + 1, false, false, 0, 0⟩ : St)) = _
  rw [e]
  rfl
theorem isNm_g : isNm [103] = true := by decide +kernel
def s2 (M K : Nat) (b : Str) : St := ⟨addF (fsK M) (fnm K) b, M + 1, false, false, 0, 0⟩
def s3 (M K : Nat) (b : Str) : St := ⟨delF (addF (fsK M) (fnm K) b) (fnm K), M + 2, false, false, 0, 0⟩
def s4 (M K : Nat) (b : Str) : St := ⟨delF (addF (fsK M) (fnm K) b) (fnm K) ++ [⟨[103], [], 0⟩], M + 3, false, false, 0, 0⟩
theorem full_g {M : Nat} (hM : M = 1000) : (stK M).append [103] [] = (1, stK M) := app_full rfl isNm_g (fsK_g M) (by show 1000 ≤ (fsK M).length; rw [fsK_length]; omega)
theorem full_k {M K : Nat} (hM : M = 1000) (h : K < 1000) (b : Str) : (stK M).append (fnm K) b = (0, s2 M K b) := by
  have hh : hasF (fsK M) (fnm K) = true := by rw [fsK_has h (by omega)]; simp; omega
  rw [app_plain rfl (num_facts K h).2.1 rfl (.inl hh)]
  have e : opnF (fsK M) (fnm K) = fsK M := by unfold opnF; rw [hh]; rfl
  show (0, (⟨addF (opnF (fsK M) (fnm K)) (fnm K) b, M + 1, false, false, 0, 0⟩ : St)) = _
  rw [e]
  rfl
theorem full_has {M K : Nat} (hM : M = 1000) (h : K < 1000) (b : Str) : hasF (s2 M K b).fs (fnm K) = true := by
  show hasF (addF (fsK M) (fnm K) b) (fnm K) = true
  rw [hasF_add, fsK_has h (by omega)]
  simp
  omega
theorem rfF_ok {s : St} {t : Str} (h1 : s.off = false) (h2 : isNm t = true) (h3 : hasF s.fs t = true) : rfF s t [] = 0 := by
  unfold rfF
  rw [if_neg (by rw [List.nil_append, rfC_ok h1 h2]; decide), if_pos h3]
theorem full_read {M K : Nat} (hM : M = 1000) (h : K < 1000) (b : Str) : rfF (s2 M K b) (fnm K) [] = 0 ∧ rdC (s2 M K b) (fnm K) = b := by
  have h1 := rfF_ok (s := s2 M K b) rfl (num_facts K h).2.1 (full_has hM h b)
  refine ⟨h1, ?_⟩
  unfold rdC
  rw [if_pos h1]
  show bytF (addF (fsK M) (fnm K) b) (fnm K) = b
  rw [bytF_add (by rw [fsK_has h (by omega)]; simp; omega)]
  have : bytF (fsK M) (fnm K) = [] := by
    unfold bytF
    cases hg : gotF (fsK M) (fnm K) with
    | nil => rfl
    | cons f r =>
      have hm : f ∈ gotF (fsK M) (fnm K) := by rw [hg]; simp
      obtain ⟨i, _, rfl⟩ := List.mem_map.1 (List.mem_filter.1 hm).1
      rfl
  rw [this, List.nil_append]
theorem full_rem {M K : Nat} (hM : M = 1000) (h : K < 1000) (b : Str) : (s2 M K b).remove (fnm K) = (0, s3 M K b) := by
  have h1 := rfF_ok (s := s2 M K b) rfl (num_facts K h).2.1 (full_has hM h b)
  have hb : (s2 M K b).begins (fnm K) [] = (0, (s2 M K b).tick) := by
    unfold St.begins
    rw [if_neg (by rw [h1]; decide), count_plain rfl]
  unfold St.remove
  rw [hb, if_neg (fun h => h rfl)]
  rfl
theorem full_g2 {w : World} {d N : Nat} {F : Nat → Prop} {M K : Nat} (hM : M = 1000) (h : K < 1000) (b : Str) (hd : Dk w d F N (s2 M K b)) : (s3 M K b).append [103] [] = (0, s4 M K b) ∧ (s4 M K b).append (fnm K) [] = (1, s4 M K b) := by
  have hl := hd.del_len (fnm K)
  rw [if_pos (full_has hM h b)] at hl
  have hl2 : (s2 M K b).fs.length = 1000 := by show (addF (fsK M) (fnm K) b).length = 1000; rw [addF_length, fsK_length, hM]
  have hl3 : (delF (addF (fsK M) (fnm K) b) (fnm K)).length = 999 := by
    have : (delF (s2 M K b).fs (fnm K)).length = 999 := by omega
    exact this
  have hg : hasF (delF (addF (fsK M) (fnm K) b) (fnm K)) [103] = false := by rw [hasF_del, hasF_add, fsK_g]; rfl
  constructor
  · rw [app_plain rfl isNm_g rfl (.inr (by show (delF _ _).length < 1000; rw [hl3]; decide))]
    have e : addF (opnF (delF (addF (fsK M) (fnm K) b) (fnm K)) [103]) [103] [] = delF (addF (fsK M) (fnm K) b) (fnm K) ++ [⟨[103], [], 0⟩] := by rw [addF_nil, opnF_has hg]
    show (0, (⟨addF (opnF (delF (addF (fsK M) (fnm K) b) (fnm K)) [103]) [103] [], M + 2 + 1, false, false, 0, 0⟩ : St)) = _
    rw [e]
    rfl
  · refine app_full rfl (num_facts K h).2.1 ?_ ?_
    · show hasF (delF (addF (fsK M) (fnm K) b) (fnm K) ++ [⟨[103], [], 0⟩]) (fnm K) = false
      rw [hasF_snoc, hasF_del]
      have hne : ¬ ([103] : Str) = fnm K := fun e => by
        unfold fnm at e
        injection e with e2
        exact absurd e2 (by decide)
      rw [show ((fnm K) == (fnm K)) = true from by simp, show ((⟨[103], [], 0⟩ : Fl).nm == fnm K) = false from beq_eq_false_iff_ne.2 hne]
      simp
    · show 1000 ≤ (delF (addF (fsK M) (fnm K) b) (fnm K) ++ [(⟨[103], [], 0⟩ : Fl)]).length
      rw [List.length_append, hl3]
      decide
end Go.Proofs.Ytdcoeebpknipdaa
