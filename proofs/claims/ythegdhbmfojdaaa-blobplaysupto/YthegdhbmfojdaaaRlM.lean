/- The reference's files rise by their names: what follows, said without memory. No walk stands here. -/
import Derived.Test.YthegdhbmfojdaaaRf8
namespace Go.Proofs.Ythegdhbmfojdaaa
open Go.RowKit Go.Maps Go.Sort
set_option linter.unusedVariables false

def Srt (l : List Fl) : Prop := l.Pairwise fun a b => a.nm < b.nm
def NdR (l : List Fl) : Prop := l.Pairwise fun a b => a.nm ≠ b.nm
structure SP (l m : List Fl) : Prop where
  srt : Srt l
  pm : l.Perm m
theorem str_gt {a b : Str} (h : ¬ a < b) (h2 : a ≠ b) : b < a := by
  rcases Std.lt_trichotomy a b with q | q | q
  · exact absurd q h
  · exact absurd q h2
  · exact q
theorem Srt.nd {l : List Fl} (h : Srt l) : NdR l := by
  unfold NdR
  refine List.Pairwise.imp ?_ h
  intro a b q e
  rw [e] at q
  exact List.lt_irrefl _ q
theorem NdR.perm {l m : List Fl} (h : NdR l) (p : l.Perm m) : NdR m := (p.pairwise_iff (fun h => Ne.symm h)).1 h
theorem SP.nd {l m : List Fl} (h : SP l m) : NdR m := h.srt.nd.perm h.pm
def srtF (l : List Fl) : List Fl := l.mergeSort fun x y => decide (x.nm ≤ y.nm)
theorem srtF_sp {m : List Fl} (h : NdR m) : SP (srtF m) m := by
  have hp : (srtF m).Perm m := List.mergeSort_perm m _
  refine ⟨?_, hp⟩
  have h1 : (srtF m).Pairwise fun a b => decide (a.nm ≤ b.nm) = true := List.pairwise_mergeSort (fun a b c q1 q2 => by
    simp only [decide_eq_true_eq] at q1 q2 ⊢
    exact Std.le_trans q1 q2) (fun a b => by
    simp only [Bool.or_eq_true, decide_eq_true_eq]
    exact Std.le_total) m
  have h2 : NdR (srtF m) := h.perm hp.symm
  refine List.Pairwise.imp (fun {a b} q => ?_) (h1.and h2)
  have q1 : a.nm ≤ b.nm := by simpa using q.1
  have q2 : a.nm ≠ b.nm := q.2
  rcases Std.lt_trichotomy a.nm b.nm with k | k | k
  · exact k
  · exact absurd k q2
  · exact absurd (Std.le_antisymm q1 (Std.le_of_lt k)) q2
theorem SP.eq {l m : List Fl} (h : SP l m) : l = srtF m := by
  have k := srtF_sp h.nd
  refine List.Perm.eq_of_pairwise (le := fun (a b : Fl) => a.nm < b.nm) ?_ h.srt k.srt (h.pm.trans k.pm.symm)
  intro a b _ _ q1 q2
  exact absurd (List.lt_trans q1 q2) (List.lt_irrefl _)
theorem srtF_perm {l m : List Fl} (h : NdR l) (p : l.Perm m) : srtF l = srtF m := SP.eq ⟨(srtF_sp h).srt, (srtF_sp h).pm.trans p⟩
theorem Srt.put {A B : List Fl} {x : Fl} (h : Srt (A ++ B)) (hB : ∀ b ∈ B, x.nm < b.nm) (hA : ∀ a, A.getLast? = some a → ¬ x.nm < a.nm) (hn : ∀ y ∈ A ++ B, y.nm ≠ x.nm) : SP (A ++ x :: B) (x :: (A ++ B)) := by
  refine ⟨?_, List.perm_middle⟩
  unfold Srt at h ⊢
  rw [List.pairwise_append] at h ⊢
  obtain ⟨h1, h2, h3⟩ := h
  have hAx : ∀ a ∈ A, a.nm < x.nm := fun a ha => by
    cases hl : A.getLast? with
    | none => rw [List.getLast?_eq_none_iff] at hl; rw [hl] at ha; cases ha
    | some z =>
      obtain ⟨A', e⟩ := List.getLast?_eq_some_iff.1 hl
      have hz : z.nm < x.nm := str_gt (hA z hl) fun q => hn z (List.mem_append.2 (.inl (by rw [e]; simp))) q.symm
      rw [e] at ha
      rcases List.mem_append.1 ha with ha | ha
      · rw [e, List.pairwise_append] at h1
        exact List.lt_trans (h1.2.2 a ha z (by simp)) hz
      · simp only [List.mem_singleton] at ha
        rw [ha]
        exact hz
  refine ⟨h1, List.pairwise_cons.2 ⟨fun b hb => hB b hb, h2⟩, fun a ha b hb => ?_⟩
  rcases List.mem_cons.1 hb with rfl | hb
  · exact hAx a ha
  · exact h3 a ha b hb
theorem srt_map {l : List Fl} (h : Srt l) (g : Fl → Fl) (hg : ∀ f, (g f).nm = f.nm) : Srt (l.map g) := by
  unfold Srt at h ⊢
  rw [List.pairwise_map]
  exact List.Pairwise.imp (fun {a b} q => by rw [hg, hg]; exact q) h
theorem Srt.erase {l : List Fl} (h : Srt l) (i : Nat) : Srt (l.eraseIdx i) := List.Pairwise.sublist (List.eraseIdx_sublist ..) h
theorem Srt.set {l : List Fl} (h : Srt l) (i : Nat) (f : Fl) (hf : ∀ g, l[i]? = some g → f.nm = g.nm) : Srt (l.set i f) := by
  unfold Srt at h ⊢
  have e : (l.set i f).map Fl.nm = l.map Fl.nm := by
    apply List.ext_getElem?
    intro j
    rw [List.getElem?_map, List.getElem?_map, List.getElem?_set]
    split
    · rename_i q
      subst q
      split
      · rename_i hl
        rw [List.getElem?_eq_getElem hl]
        simp [hf _ (List.getElem?_eq_getElem hl)]
      · rename_i hl
        rw [List.getElem?_eq_none (by omega)]
    · rfl
  have h2 : (l.map Fl.nm).Pairwise (· < ·) := List.pairwise_map.2 h
  rw [← e] at h2
  exact List.pairwise_map.1 h2
theorem hasF_noR {l : List Fl} {t : Str} : hasF l t = false ↔ ∀ f ∈ l, f.nm ≠ t := by
  unfold hasF
  rw [List.any_eq_false]
  simp
theorem hasF_permR {l m : List Fl} (p : l.Perm m) (t : Str) : hasF l t = hasF m t := by
  unfold hasF
  exact p.any_eq
theorem del_atR {l : List Fl} (h : NdR l) {i : Nat} {f : Fl} (hi : l[i]? = some f) : delF l f.nm = l.eraseIdx i := by
  induction l generalizing i with
  | nil => simp at hi
  | cons a l ih =>
    obtain ⟨h1, h2⟩ := List.pairwise_cons.1 h
    unfold delF at ih ⊢
    cases i with
    | zero =>
      simp only [List.getElem?_cons_zero, Option.some.injEq] at hi
      subst hi
      simp only [List.filter_cons, beq_self_eq_true, Bool.not_true, Bool.false_eq_true, if_false, List.eraseIdx_cons_zero]
      exact List.filter_eq_self.2 fun x hx => by simpa using fun e => h1 x hx e.symm
    | succ i =>
      simp only [List.getElem?_cons_succ] at hi
      have hm : f ∈ l := List.mem_of_getElem? hi
      have : (a.nm == f.nm) = false := by simpa using h1 f hm
      simp only [List.filter_cons, this, Bool.not_false, if_true, List.eraseIdx_cons_succ]
      rw [ih h2 hi]
theorem got_atR {l : List Fl} (h : NdR l) {i : Nat} {f : Fl} (hi : l[i]? = some f) : gotF l f.nm = [f] := by
  induction l generalizing i with
  | nil => simp at hi
  | cons a l ih =>
    obtain ⟨h1, h2⟩ := List.pairwise_cons.1 h
    unfold gotF at ih ⊢
    cases i with
    | zero =>
      simp only [List.getElem?_cons_zero, Option.some.injEq] at hi
      subst hi
      simp only [List.filter_cons, beq_self_eq_true, if_true, List.cons.injEq, true_and]
      rw [List.filter_eq_nil_iff]
      intro x hx q
      exact h1 x hx (Eq.symm (by simpa using q))
    | succ i =>
      simp only [List.getElem?_cons_succ] at hi
      have hm : f ∈ l := List.mem_of_getElem? hi
      have : (a.nm == f.nm) = false := by simpa using h1 f hm
      simp only [List.filter_cons, this, Bool.false_eq_true, if_false]
      exact ih h2 hi
theorem map_atR {l : List Fl} (h : NdR l) {i : Nat} {f : Fl} (hi : l[i]? = some f) (g : Fl → Fl) : l.map (fun x => if x.nm = f.nm then g x else x) = l.set i (g f) := by
  induction l generalizing i with
  | nil => simp at hi
  | cons a l ih =>
    obtain ⟨h1, h2⟩ := List.pairwise_cons.1 h
    cases i with
    | zero =>
      simp only [List.getElem?_cons_zero, Option.some.injEq] at hi
      subst hi
      simp only [List.map_cons, if_true, List.set_cons_zero, List.cons.injEq, true_and]
      refine (List.map_congr_left fun x hx => ?_).trans (List.map_id _)
      rw [if_neg fun e => h1 x hx e.symm]
      rfl
    | succ i =>
      simp only [List.getElem?_cons_succ] at hi
      have hm : f ∈ l := List.mem_of_getElem? hi
      simp only [List.map_cons, List.set_cons_succ]
      rw [if_neg (h1 f hm), ih h2 hi]
theorem del_noneR {l : List Fl} {t : Str} (h : hasF l t = false) : delF l t = l := List.filter_eq_self.2 fun x hx => by simpa using hasF_noR.1 h x hx
/-- The place of a file, and what is there. -/
theorem fI_get {fs : List Fl} {t : Str} (h : hasF fs t = true) : ∃ i f, fI fs t = ((i : Nat) : Int) ∧ fs[i]? = some f ∧ f.nm = t := by
  obtain ⟨i, hi, e, hn⟩ := fI_has h
  exact ⟨i, fs[i], e, List.getElem?_eq_getElem hi, hn⟩
/-- What is renamed: the others and the file under its new name. -/
theorem mov_spR {l : List Fl} (h : Srt l) {i : Nat} {f : Fl} (hi : l[i]? = some f) (b : Str) (m : List Fl) (hm : m = delF (l.eraseIdx i) b) {A B : List Fl} (hAB : m = A ++ B) (hB : ∀ q ∈ B, b < q.nm) (hA : ∀ a, A.getLast? = some a → ¬ b < a.nm) : A ++ ⟨b, f.bs, f.sy⟩ :: B = srtF (movF l f.nm b) := by
  apply SP.eq
  have hno : ∀ y ∈ A ++ B, y.nm ≠ b := fun y hy => by
    rw [← hAB, hm] at hy
    have := (List.mem_filter.1 hy).2
    simpa using this
  have hs : Srt (A ++ B) := by
    rw [← hAB, hm]
    exact List.Pairwise.filter _ (h.erase i)
  obtain ⟨h1, h2⟩ := Srt.put (x := ⟨b, f.bs, f.sy⟩) hs hB hA hno
  refine ⟨h1, h2.trans ?_⟩
  unfold movF
  rw [del_atR h.nd hi, got_atR h.nd hi, ← hm, hAB]
  exact (List.perm_append_comm (l₁ := [⟨b, f.bs, f.sy⟩]) (l₂ := A ++ B))
def rren (s : RSt) (a b : Str) : Nat × RSt := if rrc s a b ≠ 0 then (rrc s a b, s) else if (rcnt s).1 then (122, (rcnt s).2) else (0, { (rcnt s).2 with fs := srtF (movF s.fs a b) })
def rapp (s : RSt) (t b : Str) : Nat × RSt := if s.off then (122, s) else if isNm t = false then (1, s) else if hasF s.fs t = false ∧ 1000 ≤ s.fs.length then (1, s) else (if (rcnt { s with fs := srtF (addF (opnF s.fs t) t b) }).1 then 122 else 0, (rcnt { s with fs := srtF (addF (opnF s.fs t) t b) }).2)
end Go.Proofs.Ythegdhbmfojdaaa
