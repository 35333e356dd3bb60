/- Spans of numbers, as lists: what they hold, which rows of spans are alike. No program stands here. -/
import Derived.Test.YthijbpodkklcnaaProg
namespace Go.Proofs.Ythijbpodkklcnaa

abbrev Sp := Int × Int
def emp (s : Sp) : Bool := decide (s.2 ≤ s.1)
def hol (s : Sp) (t : Int) : Bool := decide (s.1 ≤ t) && decide (t < s.2)
def meet (a b : Sp) : Sp := if min a.2 b.2 ≤ max a.1 b.1 then (0, 0) else (max a.1 b.1, min a.2 b.2)
def cov (a b : Sp) : Bool := emp b || (decide (a.1 ≤ b.1) && decide (b.2 ≤ a.2))
def any (l : List Sp) (t : Int) : Bool := l.any fun s => hol s t
theorem hol_iff (s : Sp) (t : Int) : hol s t = true ↔ s.1 ≤ t ∧ t < s.2 := by simp [hol]
theorem any_iff (l : List Sp) (t : Int) : any l t = true ↔ ∃ s ∈ l, s.1 ≤ t ∧ t < s.2 := by simp [any, hol]
theorem any_nil (t : Int) : any [] t = false := rfl
theorem any_cons (s : Sp) (l : List Sp) (t : Int) : any (s :: l) t = (hol s t || any l t) := rfl
theorem any_app (l m : List Sp) (t : Int) : any (l ++ m) t = (any l t || any m t) := by simp [any]

/-- Rising, apart, none empty. -/
structure Norm (l : List Sp) : Prop where
  up : l.Pairwise fun a b => a.2 < b.1
  full : ∀ s ∈ l, s.1 < s.2
theorem Norm.nil : Norm [] := ⟨List.Pairwise.nil, fun _ h => by cases h⟩
theorem Norm.tail {a : Sp} {l : List Sp} (h : Norm (a :: l)) : Norm l := ⟨(List.pairwise_cons.1 h.up).2, fun s hs => h.full s (List.mem_cons_of_mem _ hs)⟩
theorem Norm.head {a : Sp} {l : List Sp} (h : Norm (a :: l)) : a.1 < a.2 := h.full a (List.mem_cons_self ..)
theorem Norm.later {a : Sp} {l : List Sp} (h : Norm (a :: l)) {t : Int} (ht : any l t = true) : a.2 < t := by
  obtain ⟨s, hs, h1, h2⟩ := (any_iff l t).1 ht
  have := (List.pairwise_cons.1 h.up).1 s hs
  omega
theorem norm_unique : ∀ (l m : List Sp), Norm l → Norm m → (∀ t, any l t = any m t) → l = m
  | [], [], _, _, _ => rfl
  | [], b :: m, _, hm, h => by
    have := h b.1
    rw [any_nil, any_cons, (hol_iff b b.1).2 ⟨Int.le_refl _, hm.head⟩] at this
    cases this
  | a :: l, [], hl, _, h => by
    have := h a.1
    rw [any_nil, any_cons, (hol_iff a a.1).2 ⟨Int.le_refl _, hl.head⟩] at this
    cases this
  | a :: l, b :: m, hl, hm, h => by
    have ha := hl.head
    have hb := hm.head
    have f1 : ∀ t, any (a :: l) t = true → a.1 ≤ t := fun t ht => by
      rw [any_cons, Bool.or_eq_true] at ht
      rcases ht with ht | ht
      · exact ((hol_iff _ _).1 ht).1
      · have := hl.later ht; omega
    have f2 : ∀ t, any (b :: m) t = true → b.1 ≤ t := fun t ht => by
      rw [any_cons, Bool.or_eq_true] at ht
      rcases ht with ht | ht
      · exact ((hol_iff _ _).1 ht).1
      · have := hm.later ht; omega
    have e1 : a.1 = b.1 := by
      have g1 := f2 a.1 (by rw [← h, any_cons, (hol_iff a a.1).2 ⟨Int.le_refl _, ha⟩]; rfl)
      have g2 := f1 b.1 (by rw [h, any_cons, (hol_iff b b.1).2 ⟨Int.le_refl _, hb⟩]; rfl)
      omega
    have f3 : any (a :: l) a.2 = false := by
      rw [Bool.eq_false_iff]
      intro ht
      rw [any_cons, Bool.or_eq_true] at ht
      rcases ht with ht | ht
      · have := ((hol_iff _ _).1 ht).2; omega
      · have := hl.later ht; omega
    have f4 : any (b :: m) b.2 = false := by
      rw [Bool.eq_false_iff]
      intro ht
      rw [any_cons, Bool.or_eq_true] at ht
      rcases ht with ht | ht
      · have := ((hol_iff _ _).1 ht).2; omega
      · have := hm.later ht; omega
    have e2 : a.2 = b.2 := by
      by_cases c1 : a.2 < b.2
      · rw [h, any_cons, (hol_iff b a.2).2 ⟨by omega, c1⟩] at f3
        cases f3
      · by_cases c2 : b.2 < a.2
        · rw [← h, any_cons, (hol_iff a b.2).2 ⟨by omega, c2⟩] at f4
          cases f4
        · omega
    have e : a = b := Prod.ext e1 e2
    subst e
    have : l = m := norm_unique l m hl.tail hm.tail fun t => by
      have ht := h t
      rw [any_cons, any_cons] at ht
      by_cases c : hol a t = true
      · have hc := ((hol_iff _ _).1 c).2
        have n1 : any l t = false := by
          rw [Bool.eq_false_iff]; intro h'; have := hl.later h'; omega
        have n2 : any m t = false := by
          rw [Bool.eq_false_iff]; intro h'; have := hm.later h'; omega
        rw [n1, n2]
      · rw [Bool.not_eq_true] at c
        rw [c] at ht
        simpa using ht
    rw [this]
/-- One more behind the others. -/
theorem Norm.push {l : List Sp} {s : Sp} (h : Norm l) (hs : s.1 < s.2) (hl : ∀ p ∈ l, p.2 < s.1) : Norm (l ++ [s]) := by
  refine ⟨List.pairwise_append.2 ⟨h.up, List.pairwise_singleton _ _, fun a ha b hb => ?_⟩, fun p hp => ?_⟩
  · simp only [List.mem_singleton] at hb; subst hb; exact hl a ha
  · rcases List.mem_append.1 hp with hp | hp
    · exact h.full p hp
    · simp only [List.mem_singleton] at hp; subst hp; exact hs
/-- The last one, longer. -/
theorem Norm.grow {l : List Sp} {s : Sp} {y : Int} (h : Norm (l ++ [s])) (hy : s.2 ≤ y) : Norm (l ++ [(s.1, y)]) := by
  obtain ⟨h1, -, h3⟩ := List.pairwise_append.1 h.up
  have hs := h.full s (by simp)
  exact Norm.push ⟨h1, fun p hp => h.full p (by simp [hp])⟩ (by show s.1 < y; omega) fun p hp => h3 p hp s (by simp)

/-- A part behind a row, if it holds anything. -/
def wp (l : List Sp) (s : Sp) : List Sp := if emp s then l else l ++ [s]
theorem wp_any (l : List Sp) (s : Sp) (t : Int) : any (wp l s) t = (any l t || hol s t) := by
  unfold wp emp
  by_cases h : s.2 ≤ s.1
  · have : hol s t = false := by
      rw [Bool.eq_false_iff]; intro h'; have := (hol_iff _ _).1 h'; omega
    simp [h, this]
  · simp [h, any]
theorem wp_length (l : List Sp) (s : Sp) : (wp l s).length ≤ l.length + 1 := by unfold wp; split <;> simp

/-- One span more, of those that rise by their beginnings. -/
def ust (o : List Sp) (s : Sp) : List Sp :=
  if 0 < o.length ∧ s.1 ≤ (o.getD (o.length - 1) (0, 0)).2 then o.set (o.length - 1) ((o.getD (o.length - 1) (0, 0)).1, max (o.getD (o.length - 1) (0, 0)).2 s.2) else o ++ [s]
theorem ust_nil (s : Sp) : ust [] s = [s] := by simp [ust]
theorem ust_app (o : List Sp) (p s : Sp) : ust (o ++ [p]) s = if s.1 ≤ p.2 then o ++ [(p.1, max p.2 s.2)] else o ++ [p] ++ [s] := by
  unfold ust
  simp
theorem last_cases (l : List Sp) : l = [] ∨ ∃ o p, l = o ++ [p] := by
  rcases List.eq_nil_or_concat l with h | ⟨o, p, h⟩
  · exact .inl h
  · exact .inr ⟨o, p, by rw [h, List.concat_eq_append]⟩
structure UInv (out : List Sp) (done rest : List Sp) : Prop where
  norm : Norm out
  all : ∀ t, any out t = any done t
  ahead : ∀ p ∈ out, ∀ s ∈ rest, p.1 ≤ s.1
theorem UInv.step {out done rest : List Sp} {s : Sp} (h : UInv out done (s :: rest)) (hs : s.1 < s.2) (hr : ∀ q ∈ rest, s.1 ≤ q.1) : UInv (ust out s) (done ++ [s]) rest := by
  rcases last_cases out with rfl | ⟨o, p, rfl⟩
  · rw [ust_nil]
    refine ⟨Norm.push Norm.nil hs (fun _ h => by cases h), fun t => ?_, fun p hp q hq => ?_⟩
    · rw [any_app, ← h.all]; rfl
    · simp only [List.mem_singleton] at hp; subst hp; exact hr q hq
  · rw [ust_app]
    have hps : p.1 ≤ s.1 := h.ahead p (by simp) s (by simp)
    have hp2 := h.norm.full p (by simp)
    by_cases c : s.1 ≤ p.2
    · rw [if_pos c]
      refine ⟨h.norm.grow (Int.le_max_left _ _), fun t => ?_, fun q hq r hr' => ?_⟩
      · rw [any_app, any_app, ← h.all, any_app, Bool.or_assoc]
        congr 1
        rw [Bool.eq_iff_iff, Bool.or_eq_true, any_iff, any_iff, any_iff]
        simp only [List.mem_singleton, exists_eq_left]
        omega
      · rcases List.mem_append.1 hq with hq | hq
        · exact h.ahead q (by simp [hq]) r (by simp [hr'])
        · simp only [List.mem_singleton] at hq; subst hq
          exact h.ahead p (by simp) r (by simp [hr'])
    · rw [if_neg c]
      refine ⟨h.norm.push hs fun q hq => ?_, fun t => ?_, fun q hq r hr' => ?_⟩
      · rcases List.mem_append.1 hq with hq | hq
        · have := (List.pairwise_append.1 h.norm.up).2.2 q hq p (by simp); omega
        · simp only [List.mem_singleton] at hq; subst hq; omega
      · rw [any_app, any_app done, ← h.all]
      · rcases List.mem_append.1 hq with hq | hq
        · exact h.ahead q hq r (by simp [hr'])
        · simp only [List.mem_singleton] at hq; subst hq; exact hr r hr'
def Rise (l : List Sp) : Prop := l.Pairwise fun a b => a.1 ≤ b.1
theorem uni_fold : ∀ (rest out done : List Sp), UInv out done rest → Rise rest → (∀ s ∈ rest, s.1 < s.2) → UInv (rest.foldl ust out) (done ++ rest) []
  | [], out, done, h, _, _ => by simpa using h
  | s :: rest, out, done, h, hr, hf => by
    have hr' := List.pairwise_cons.1 hr
    have := uni_fold rest (ust out s) (done ++ [s]) (h.step (hf s (by simp)) hr'.1) hr'.2 fun q hq => hf q (by simp [hq])
    simpa using this
theorem uni_norm {l : List Sp} (hr : Rise l) (hf : ∀ s ∈ l, s.1 < s.2) : Norm (l.foldl ust []) ∧ ∀ t, any (l.foldl ust []) t = any l t := by
  have := uni_fold l [] [] ⟨Norm.nil, fun _ => rfl, fun _ h => by cases h⟩ hr hf
  exact ⟨this.norm, by simpa using this.all⟩

/-- One gone span more: what is kept, and where the rest begins. -/
def mst (T : Int) (x : List Sp × Int) (g : Sp) : List Sp × Int := (wp x.1 (x.2, min T g.1), max x.2 g.2)
structure MInv (s : Sp) (x : List Sp × Int) (done rest : List Sp) : Prop where
  norm : Norm x.1
  behind : ∀ p ∈ x.1, p.2 < x.2
  all : ∀ t, any x.1 t = true ↔ (hol s t = true ∧ any done t = false ∧ t < x.2)
  ge : s.1 ≤ x.2
  ge2 : ∀ p ∈ done, p.2 ≤ x.2
  at' : x.2 = s.1 ∨ ∃ p ∈ done, x.2 = p.2
  ahead : ∀ p ∈ done, ∀ q ∈ rest, p.1 ≤ q.1
theorem MInv.step {s : Sp} {x : List Sp × Int} {done rest : List Sp} {g : Sp} (h : MInv s x done (g :: rest)) (hg : g.1 < g.2) (hr : ∀ q ∈ rest, g.1 ≤ q.1) : MInv s (mst s.2 x g) (done ++ [g]) rest := by
  obtain ⟨out, F⟩ := x
  have hge := h.ge
  have hge2 := h.ge2
  have hbe := h.behind
  simp only at hge hge2 hbe
  refine ⟨?_, ?_, fun t => ?_, ?_, ?_, ?_, ?_⟩
  · show Norm (wp out (F, min s.2 g.1))
    unfold wp emp
    by_cases c : min s.2 g.1 ≤ F
    · rw [if_pos (by simpa using c)]; exact h.norm
    · rw [if_neg (by simpa using c)]
      exact h.norm.push (by show F < min s.2 g.1; omega) hbe
  · show ∀ p ∈ wp out (F, min s.2 g.1), p.2 < max F g.2
    intro p hp
    unfold wp at hp
    split at hp
    · have := hbe p hp; omega
    · rcases List.mem_append.1 hp with hp | hp
      · have := hbe p hp; omega
      · simp only [List.mem_singleton] at hp; subst hp; show min s.2 g.1 < _; omega
  · show any (wp out (F, min s.2 g.1)) t = true ↔ _ ∧ _ ∧ t < max F g.2
    rw [wp_any, Bool.or_eq_true, h.all, any_app, hol_iff, hol_iff]
    show _ ↔ _ ∧ (any done t || (hol g t || false)) = false ∧ _
    rw [Bool.or_eq_false_iff, Bool.or_false]
    have hgf : hol g t = false ↔ ¬ (g.1 ≤ t ∧ t < g.2) := by rw [← hol_iff, Bool.not_eq_true]
    rw [hgf]
    show (s.1 ≤ t ∧ t < s.2) ∧ any done t = false ∧ t < F ∨ F ≤ t ∧ t < min s.2 g.1 ↔ _
    constructor
    · rintro (⟨h1, h2, h3⟩ | ⟨h1, h2⟩)
      · refine ⟨h1, ⟨h2, fun hh => ?_⟩, by omega⟩
        rcases h.at' with e | ⟨p, hp, e⟩
        · simp only at e; omega
        · have hpg := h.ahead p hp g (by simp)
          have : any done t = true := (any_iff _ _).2 ⟨p, hp, by omega, by simp only at e; omega⟩
          rw [h2] at this; cases this
      · refine ⟨⟨by omega, by omega⟩, ⟨?_, by omega⟩, by omega⟩
        rw [Bool.eq_false_iff]; intro hh
        obtain ⟨p, hp, k1, k2⟩ := (any_iff _ _).1 hh
        have := hge2 p hp; omega
    · rintro ⟨h1, ⟨h2, h3⟩, h4⟩
      by_cases c : t < F
      · exact .inl ⟨h1, h2, c⟩
      · exact .inr ⟨by omega, by omega⟩
  · show s.1 ≤ max F g.2; omega
  · show ∀ p ∈ done ++ [g], p.2 ≤ max F g.2
    intro p hp
    rcases List.mem_append.1 hp with hp | hp
    · have := hge2 p hp; omega
    · simp only [List.mem_singleton] at hp; subst hp; omega
  · show max F g.2 = s.1 ∨ ∃ p ∈ done ++ [g], max F g.2 = p.2
    by_cases c : g.2 ≤ F
    · have e : max F g.2 = F := by omega
      rw [e]
      rcases h.at' with e | ⟨p, hp, e⟩
      · exact .inl e
      · exact .inr ⟨p, by simp [hp], e⟩
    · exact .inr ⟨g, by simp, by omega⟩
  · intro p hp q hq
    rcases List.mem_append.1 hp with hp | hp
    · exact h.ahead p hp q (by simp [hq])
    · simp only [List.mem_singleton] at hp; subst hp; exact hr q hq
theorem min_fold (s : Sp) : ∀ (rest : List Sp) (x : List Sp × Int) (done : List Sp), MInv s x done rest → Rise rest → (∀ q ∈ rest, q.1 < q.2) → MInv s (rest.foldl (mst s.2) x) (done ++ rest) []
  | [], x, done, h, _, _ => by simpa using h
  | g :: rest, x, done, h, hr, hf => by
    have hr' := List.pairwise_cons.1 hr
    have := min_fold s rest (mst s.2 x g) (done ++ [g]) (h.step (hf g (by simp)) hr'.1) hr'.2 fun q hq => hf q (by simp [hq])
    simpa using this
def mns (s : Sp) (l : List Sp) : List Sp := wp (l.foldl (mst s.2) ([], s.1)).1 ((l.foldl (mst s.2) ([], s.1)).2, s.2)
theorem mns_norm {s : Sp} {l : List Sp} (hr : Rise l) (hf : ∀ q ∈ l, q.1 < q.2) : Norm (mns s l) ∧ ∀ t, any (mns s l) t = (hol s t && !any l t) := by
  have h := min_fold s l ([], s.1) [] ⟨Norm.nil, (fun _ h => by cases h), (fun t => by
      rw [hol_iff]; show any [] t = true ↔ _ ∧ _ ∧ t < s.1
      rw [any_nil]; constructor
      · intro h; cases h
      · rintro ⟨h1, -, h3⟩; omega), Int.le_refl _, (fun _ h => by cases h), .inl rfl, (fun _ h => by cases h)⟩ hr hf
  rw [List.nil_append] at h
  unfold mns
  generalize l.foldl (mst s.2) ([], s.1) = x at *
  obtain ⟨out, F⟩ := x
  have hge := h.ge
  have hge2 := h.ge2
  simp only at hge hge2
  refine ⟨?_, fun t => ?_⟩
  · show Norm (wp out (F, s.2))
    unfold wp emp
    by_cases c : s.2 ≤ F
    · rw [if_pos (by simpa using c)]; exact h.norm
    · rw [if_neg (by simpa using c)]; exact h.norm.push (by show F < s.2; omega) h.behind
  · show any (wp out (F, s.2)) t = _
    rw [wp_any, Bool.eq_iff_iff, Bool.or_eq_true, h.all, Bool.and_eq_true, hol_iff, hol_iff, Bool.not_eq_true']
    show (s.1 ≤ t ∧ t < s.2) ∧ any l t = false ∧ t < F ∨ F ≤ t ∧ t < s.2 ↔ _
    constructor
    · rintro (⟨h1, h2, h3⟩ | ⟨h1, h2⟩)
      · exact ⟨h1, h2⟩
      · refine ⟨⟨by omega, h2⟩, ?_⟩
        rw [Bool.eq_false_iff]; intro hh
        obtain ⟨p, hp, k1, k2⟩ := (any_iff _ _).1 hh
        have := hge2 p hp; omega
    · rintro ⟨h1, h2⟩
      by_cases c : t < F
      · exact .inl ⟨h1, h2, c⟩
      · exact .inr ⟨by omega, h1.2⟩
/-- Those that aren't empty hold what all do. -/
theorem any_perm {l m : List Sp} (h : l.Perm m) (t : Int) : any l t = any m t := by
  rw [Bool.eq_iff_iff, any_iff, any_iff]
  constructor <;> (rintro ⟨s, hs, k⟩; exact ⟨s, by first | exact h.mem_iff.1 hs | exact h.mem_iff.2 hs, k⟩)
theorem any_full (l : List Sp) (t : Int) : any (l.filter fun s => !emp s) t = any l t := by
  rw [Bool.eq_iff_iff, any_iff, any_iff]
  constructor
  · rintro ⟨s, hs, k⟩; exact ⟨s, (List.mem_filter.1 hs).1, k⟩
  · rintro ⟨s, hs, k⟩; exact ⟨s, List.mem_filter.2 ⟨hs, by simp [emp]; omega⟩, k⟩
end Go.Proofs.Ythijbpodkklcnaa
