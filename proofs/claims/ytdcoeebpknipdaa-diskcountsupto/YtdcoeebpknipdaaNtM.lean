/- What a note does to a row of files, said without memory. No walk stands here. -/
import Derived.Test.YtdcoeebpknipdaaBk2
namespace Go.Proofs.Ytdcoeebpknipdaa
open Go.RowKit Go.Maps Go.Sort

/-- Each name once. -/
def Nd (l : List Fl) : Prop := l.Pairwise fun a b => a.nm ≠ b.nm
theorem Nd.perm {l m : List Fl} (h : Nd l) (p : l.Perm m) : Nd m := (p.pairwise_iff (fun h => Ne.symm h)).1 h
theorem hasF_perm {l m : List Fl} (p : l.Perm m) (t : Str) : hasF l t = hasF m t := by
  unfold hasF
  rw [Bool.eq_iff_iff, List.any_eq_true, List.any_eq_true]
  exact ⟨fun ⟨x, h, k⟩ => ⟨x, p.mem_iff.1 h, k⟩, fun ⟨x, h, k⟩ => ⟨x, p.mem_iff.2 h, k⟩⟩
theorem hasF_no {l : List Fl} {t : Str} : hasF l t = false ↔ ∀ f ∈ l, f.nm ≠ t := by
  unfold hasF
  rw [List.any_eq_false]
  simp
theorem hasF_yes {l : List Fl} {t : Str} : hasF l t = true ↔ ∃ f ∈ l, f.nm = t := by
  unfold hasF
  rw [List.any_eq_true]
  simp
theorem opnF_perm {l m : List Fl} (p : l.Perm m) (t : Str) : (opnF l t).Perm (opnF m t) := by
  unfold opnF
  rw [hasF_perm p t]
  split
  · exact p
  · exact p.append_right _
theorem addF_perm {l m : List Fl} (p : l.Perm m) (t b : Str) : (addF l t b).Perm (addF m t b) := p.map _
theorem synF_perm {l m : List Fl} (p : l.Perm m) (t : Str) : (synF l t).Perm (synF m t) := p.map _
theorem delF_perm {l m : List Fl} (p : l.Perm m) (t : Str) : (delF l t).Perm (delF m t) := p.filter _
theorem movF_perm {l m : List Fl} (p : l.Perm m) (a b : Str) : (movF l a b).Perm (movF m a b) :=
  (delF_perm (delF_perm p a) b).append ((p.filter _).map _)
/-- What a call does to the files. -/
def nF (k : Nat) (nm t b : Str) (l : List Fl) : List Fl :=
  if k < 3 then addF (opnF l nm) nm b else if k = 3 then synF l nm else if k = 4 then delF l nm else movF l nm t
theorem nF_perm {l m : List Fl} (p : l.Perm m) (k : Nat) (nm t b : Str) : (nF k nm t b l).Perm (nF k nm t b m) := by
  unfold nF
  split
  · exact addF_perm (opnF_perm p nm) nm b
  · split
    · exact synF_perm p nm
    · split
      · exact delF_perm p nm
      · exact movF_perm p nm t
/-- In a row with each name once a change of a name is a change of its place. -/
theorem map_at {l : List Fl} (h : Nd l) {i : Nat} {f : Fl} (hi : l[i]? = some f) (g : Fl → Fl) : l.map (fun x => if x.nm = f.nm then g x else x) = l.set i (g f) := by
  induction l generalizing i with
  | nil => simp at hi
  | cons a l ih =>
    obtain ⟨h1, h2⟩ := List.pairwise_cons.1 h
    cases i with
    | zero =>
      simp only [List.getElem?_cons_zero, Option.some.injEq] at hi
      subst hi
      simp only [List.map_cons, if_true, List.set_cons_zero, List.cons.injEq, true_and]
      refine (List.map_congr_left fun x hx => ?_).trans (List.map_id _)
      rw [if_neg fun e => h1 x hx e.symm]
      rfl
    | succ i =>
      simp only [List.getElem?_cons_succ] at hi
      have hm : f ∈ l := List.mem_of_getElem? hi
      simp only [List.map_cons, List.set_cons_succ]
      rw [if_neg (h1 f hm), ih h2 hi]
theorem del_at {l : List Fl} (h : Nd l) {i : Nat} {f : Fl} (hi : l[i]? = some f) : delF l f.nm = l.eraseIdx i := by
  induction l generalizing i with
  | nil => simp at hi
  | cons a l ih =>
    obtain ⟨h1, h2⟩ := List.pairwise_cons.1 h
    unfold delF at ih ⊢
    cases i with
    | zero =>
      simp only [List.getElem?_cons_zero, Option.some.injEq] at hi
      subst hi
      simp only [List.filter_cons, beq_self_eq_true, Bool.not_true, Bool.false_eq_true, if_false, List.eraseIdx_cons_zero]
      exact List.filter_eq_self.2 fun x hx => by simpa using fun e => h1 x hx e.symm
    | succ i =>
      simp only [List.getElem?_cons_succ] at hi
      have hm : f ∈ l := List.mem_of_getElem? hi
      have : (a.nm == f.nm) = false := by simpa using h1 f hm
      simp only [List.filter_cons, this, Bool.not_false, if_true, List.eraseIdx_cons_succ]
      rw [ih h2 hi]
theorem erase_perm {α : Type} {l : List α} {i : Nat} {f : α} (hi : l[i]? = some f) : l.Perm (f :: l.eraseIdx i) := by
  induction l generalizing i with
  | nil => simp at hi
  | cons a l ih =>
    cases i with
    | zero => simp only [List.getElem?_cons_zero, Option.some.injEq] at hi; subst hi; exact List.Perm.refl _
    | succ i =>
      simp only [List.getElem?_cons_succ] at hi
      simp only [List.eraseIdx_cons_succ]
      exact ((ih hi).cons a).trans (List.Perm.swap _ _ _)
theorem set_perm {α : Type} {l : List α} {i : Nat} {f : α} (hi : l[i]? = some f) (x : α) : (l.set i x).Perm (x :: l.eraseIdx i) := by
  have hl := (List.getElem?_eq_some_iff.1 hi).1
  have := erase_perm (l := l.set i x) (i := i) (f := x) (by simp [hl])
  rwa [List.eraseIdx_set_eq] at this
theorem del_none {l : List Fl} {t : Str} (h : ∀ f ∈ l, f.nm ≠ t) : delF l t = l := List.filter_eq_self.2 fun x hx => by simpa using h x hx
theorem got_none {l : List Fl} {t : Str} (h : ∀ f ∈ l, f.nm ≠ t) : gotF l t = [] := List.filter_eq_nil_iff.2 fun x hx => by simpa using h x hx
/-- What is renamed, in another order. -/
theorem mov_cons {f : Fl} {R : List Fl} (h : ∀ x ∈ R, x.nm ≠ f.nm) (t : Str) : movF (f :: R) f.nm t = delF R t ++ [⟨t, f.bs, f.sy⟩] := by
  unfold movF
  have e1 : delF (f :: R) f.nm = R := by
    unfold delF
    simp only [List.filter_cons, beq_self_eq_true, Bool.not_true, Bool.false_eq_true, if_false]
    exact del_none h
  have e2 : gotF (f :: R) f.nm = [f] := by
    unfold gotF
    simp only [List.filter_cons, beq_self_eq_true, if_true]
    exact congrArg (List.cons f) (got_none h)
  rw [e1, e2]
  rfl
theorem mov_at {l : List Fl} (h : Nd l) {i : Nat} {f : Fl} (hi : l[i]? = some f) {t : Str} {z : Int} (hz : At1 l t z) (hne : f.nm ≠ t) :
    (if 0 ≤ z then (l.set i ⟨t, f.bs, f.sy⟩).eraseIdx z.toNat else l.set i ⟨t, f.bs, f.sy⟩).Perm (movF l f.nm t) := by
  have p1 := erase_perm hi
  have hN := h.perm p1
  obtain ⟨h1, h2⟩ := List.pairwise_cons.1 hN
  have p2 := set_perm hi (⟨t, f.bs, f.sy⟩ : Fl)
  refine List.Perm.trans ?_ (movF_perm p1 f.nm t).symm
  rw [mov_cons (fun x hx => (h1 x hx).symm)]
  rcases hz with ⟨k, g, hk, hg, rfl⟩ | ⟨hz, rfl⟩
  · rw [if_pos (by omega)]
    have hki : k ≠ i := fun e => by
      subst e
      rw [hk] at hi
      cases hi
      exact hne hg
    have p3 : (l.set i (⟨t, f.bs, f.sy⟩ : Fl)).Perm (g :: (l.set i (⟨t, f.bs, f.sy⟩ : Fl)).eraseIdx k) := erase_perm (by rw [List.getElem?_set_ne (Ne.symm hki)]; exact hk)
    have hgm : g ∈ l.eraseIdx i := by
      have : g ∈ f :: l.eraseIdx i := p1.mem_iff.1 (List.mem_of_getElem? hk)
      rcases List.mem_cons.1 this with e | e
      · subst e; exact absurd hg hne
      · exact e
    obtain ⟨j, hj⟩ := List.mem_iff_getElem?.1 hgm
    have p4 := erase_perm hj
    have hN2 : Nd (g :: (l.eraseIdx i).eraseIdx j) := Nd.perm h2 p4
    obtain ⟨h3, -⟩ := List.pairwise_cons.1 hN2
    have e5 : (delF (l.eraseIdx i) t).Perm ((l.eraseIdx i).eraseIdx j) := by
      refine (delF_perm p4 t).trans ?_
      unfold delF
      simp only [List.filter_cons, hg, beq_self_eq_true, Bool.not_true, Bool.false_eq_true, if_false]
      exact List.Perm.of_eq (del_none fun x hx => by rw [← hg]; exact (h3 x hx).symm)
    have p6 : (g :: (l.set i (⟨t, f.bs, f.sy⟩ : Fl)).eraseIdx k).Perm (g :: ⟨t, f.bs, f.sy⟩ :: (l.eraseIdx i).eraseIdx j) := p3.symm.trans (p2.trans ((p4.cons _).trans (List.Perm.swap _ _ _)))
    have p7 := p6.cons_inv
    simp only [Int.toNat_natCast]
    exact p7.trans ((List.perm_append_singleton _ _).symm.trans (e5.symm.append_right _))
  · rw [if_neg (by omega)]
    rw [del_none fun x hx => hz x (p1.mem_iff.2 (List.mem_cons_of_mem _ hx))]
    exact p2.trans (List.perm_append_singleton _ _).symm
theorem mov_self {l : List Fl} (t : Str) : l.Perm (movF l t t) := by
  unfold movF
  have e1 : delF (delF l t) t = delF l t := by unfold delF; rw [List.filter_filter]; simp
  have e2 : (gotF l t).map (fun f => (⟨t, f.bs, f.sy⟩ : Fl)) = gotF l t := by
    refine (List.map_congr_left fun x hx => ?_).trans (List.map_id _)
    have : x.nm = t := by simpa using (List.mem_filter.1 hx).2
    subst this
    rfl
  rw [e1, e2]
  refine ((List.filter_append_perm (fun f : Fl => f.nm == t) l).symm.trans List.perm_append_comm).trans ?_
  exact List.Perm.refl _
theorem mov_gone {l : List Fl} {a t : Str} (h : ∀ f ∈ l, f.nm ≠ a) : movF l a t = delF l t := by
  unfold movF
  rw [got_none h, del_none h]
  simp
theorem syn_none {l : List Fl} {t : Str} (h : ∀ f ∈ l, f.nm ≠ t) : synF l t = l := by
  unfold synF
  refine (List.map_congr_left fun x hx => ?_).trans (List.map_id _)
  rw [if_neg (h x hx)]
  rfl
/-- What a note leaves in the book: where the name stood is told. -/
def bkE (k : Nat) (nm t b : Str) (E : List Fl) (i j : Int) : List Fl :=
  if k < 3 then (if 0 ≤ i then E.set i.toNat ⟨(E.getD i.toNat ⟨[], [], 0⟩).nm, (E.getD i.toNat ⟨[], [], 0⟩).bs ++ b, (E.getD i.toNat ⟨[], [], 0⟩).sy⟩ else E ++ [⟨nm, b, 0⟩])
  else if k = 3 then (if 0 ≤ i then E.set i.toNat ⟨(E.getD i.toNat ⟨[], [], 0⟩).nm, (E.getD i.toNat ⟨[], [], 0⟩).bs, (E.getD i.toNat ⟨[], [], 0⟩).bs.length⟩ else E)
  else if k = 4 then (if 0 ≤ i then E.eraseIdx i.toNat else E)
  else if 0 ≤ i ∧ nm ≠ t then (if 0 ≤ j then (E.set i.toNat ⟨t, (E.getD i.toNat ⟨[], [], 0⟩).bs, (E.getD i.toNat ⟨[], [], 0⟩).sy⟩).eraseIdx j.toNat else E.set i.toNat ⟨t, (E.getD i.toNat ⟨[], [], 0⟩).bs, (E.getD i.toNat ⟨[], [], 0⟩).sy⟩) else E
theorem At1.has {E : List Fl} {t : Str} {z : Int} (h : At1 E t z) : hasF E t = decide (0 ≤ z) := by
  rcases h with ⟨i, f, h, e, rfl⟩ | ⟨h, rfl⟩
  · rw [hasF_yes.2 ⟨f, List.mem_of_getElem? h, e⟩]
    simp
  · rw [hasF_no.2 h]
    rfl
theorem add_new {E : List Fl} {nm : Str} (h : ∀ f ∈ E, f.nm ≠ nm) (b : Str) : addF (opnF E nm) nm b = E ++ [⟨nm, b, 0⟩] := by
  unfold opnF
  rw [hasF_no.2 h]
  unfold addF
  simp only [Bool.false_eq_true, if_false, List.map_append, List.map_cons, List.map_nil, if_true, List.nil_append]
  congr 1
  refine (List.map_congr_left fun x hx => ?_).trans (List.map_id _)
  rw [if_neg (h x hx)]
  rfl
theorem bkE_perm {k : Nat} {nm t b : Str} {E : List Fl} {i j : Int} (hN : Nd E) (hi : At1 E nm i) (hj : At1 E t j) (hk : k < 3 ∨ 0 ≤ i) : (bkE k nm t b E i j).Perm (nF k nm t b E) := by
  unfold bkE nF
  rcases hi with ⟨q, f, hq, rfl, rfl⟩ | ⟨hi, rfl⟩
  · have hh : hasF E f.nm = true := hasF_yes.2 ⟨f, List.mem_of_getElem? hq, rfl⟩
    have hg : E.getD (q : Int).toNat ⟨[], [], 0⟩ = f := by simp [List.getD, hq]
    split
    · rw [if_pos (by omega), hg]
      unfold opnF
      rw [hh]
      simp only [Int.toNat_natCast, if_true]
      exact List.Perm.of_eq (map_at hN hq fun x => ⟨x.nm, x.bs ++ b, x.sy⟩).symm
    · split
      · rw [if_pos (by omega), hg]
        simp only [Int.toNat_natCast]
        exact List.Perm.of_eq (map_at hN hq fun x => ⟨x.nm, x.bs, x.bs.length⟩).symm
      · split
        · rw [if_pos (by omega), del_at hN hq]
          exact List.Perm.refl _
        · by_cases e : f.nm = t
          · rw [if_neg (fun h => h.2 e)]
            rw [← e]
            exact mov_self _
          · rw [if_pos ⟨by omega, e⟩]
            rw [hg]
            simp only [Int.toNat_natCast]
            exact mov_at hN hq hj e
  · have hk3 : k < 3 := by rcases hk with h | h; exact h; omega
    rw [if_pos hk3, if_pos hk3, if_neg (by omega), add_new hi]
end Go.Proofs.Ytdcoeebpknipdaa
