/- Which set counts when: the order of sets, stretches, and that a row of stretches is told by the times. No program stands here. -/
import Derived.Test.YtgbmigfamefenaaMem
namespace Go.Proofs.Ytgbmigfamefenaa
set_option linter.unusedVariables false

/-- What the segments of a set have in common: from, to, version. -/
abbrev K3 := Int × Int × Int
/-- One set goes ahead of another one. -/
def Ahd (k o : K3) : Prop := o.2.2 < k.2.2 ∨ (o.2.2 = k.2.2 ∧ (o.1 < k.1 ∨ (o.1 = k.1 ∧ k.2.1 < o.2.1)))
instance (k o : K3) : Decidable (Ahd k o) := by unfold Ahd; infer_instance
theorem Ahd.irrefl (k : K3) : ¬ Ahd k k := by unfold Ahd; omega
theorem Ahd.trans {a b c : K3} (h : Ahd a b) (g : Ahd b c) : Ahd a c := by unfold Ahd at *; omega
theorem Ahd.asymm {a b : K3} (h : Ahd a b) : ¬ Ahd b a := by unfold Ahd at *; omega
theorem Ahd.total {a b : K3} (h : a ≠ b) : Ahd a b ∨ Ahd b a := by
  obtain ⟨x, y, z⟩ := a
  obtain ⟨x', y', z'⟩ := b
  unfold Ahd
  simp only
  by_cases h1 : x = x'
  · by_cases h2 : y = y'
    · by_cases h3 : z = z'
      · exact absurd (by rw [h1, h2, h3]) h
      · omega
    · omega
  · omega
/-- A set holds a time. -/
def Hl (k : K3) (x : Int) : Prop := k.1 ≤ x ∧ x < k.2.1
/-- Of some sets this one counts at a time. -/
structure Bst (L : List K3) (x : Int) (k : K3) : Prop where
  mem : k ∈ L
  hl : Hl k x
  top : ∀ o ∈ L, Hl o x → o = k ∨ Ahd k o
theorem Bst.unique {L : List K3} {x : Int} {k k' : K3} (h : Bst L x k) (h' : Bst L x k') : k = k' := by
  rcases h.top k' h'.mem h'.hl with e | e
  · exact e.symm
  · rcases h'.top k h.mem h.hl with e' | e'
    · exact e'
    · exact absurd e' e.asymm
theorem Bst.exists {L : List K3} {x : Int} (h : ∃ k ∈ L, Hl k x) : ∃ k, Bst L x k := by
  induction L with
  | nil => obtain ⟨k, hk, _⟩ := h; cases hk
  | cons a L ih =>
    by_cases hL : ∃ k ∈ L, Hl k x
    · obtain ⟨k, hk⟩ := ih hL
      by_cases ha : Hl a x
      · by_cases e : a = k
        · exact ⟨k, List.mem_cons_of_mem _ hk.mem, hk.hl, fun o ho h2 => by
            rcases List.mem_cons.1 ho with r | r
            · exact .inl (r.trans e)
            · exact hk.top o r h2⟩
        · rcases Ahd.total e with q | q
          · exact ⟨a, List.mem_cons_self .., ha, fun o ho h2 => by
              rcases List.mem_cons.1 ho with r | r
              · exact .inl r
              · rcases hk.top o r h2 with t | t
                · rw [t]; exact .inr q
                · exact .inr (q.trans t)⟩
          · exact ⟨k, List.mem_cons_of_mem _ hk.mem, hk.hl, fun o ho h2 => by
              rcases List.mem_cons.1 ho with r | r
              · rw [r]; exact .inr q
              · exact hk.top o r h2⟩
      · exact ⟨k, List.mem_cons_of_mem _ hk.mem, hk.hl, fun o ho h2 => by
          rcases List.mem_cons.1 ho with r | r
          · rw [r] at h2; exact absurd h2 ha
          · exact hk.top o r h2⟩
    · obtain ⟨k, hk, h2⟩ := h
      rcases List.mem_cons.1 hk with r | r
      · exact ⟨a, List.mem_cons_self .., r ▸ h2, fun o ho h3 => by
          rcases List.mem_cons.1 ho with t | t
          · exact .inl t
          · exact absurd ⟨o, t, h3⟩ hL⟩
      · exact absurd ⟨k, r, h2⟩ hL
theorem Bst.congr {L M : List K3} (h : ∀ k, k ∈ L ↔ k ∈ M) {x : Int} {k : K3} (b : Bst L x k) : Bst M x k := ⟨(h k).1 b.mem, b.hl, fun o ho => b.top o ((h o).2 ho)⟩

/-- A stretch: its set, from, to. -/
abbrev S3 := K3 × Int × Int
/-- Stretches in their order in time: none empty, none over another one, two side by side of unlike sets. -/
def Chn : List S3 → Prop := List.Pairwise fun a b => a.2.2 ≤ b.2.1
def Dif : List S3 → Prop
  | a :: b :: l => a.1 ≠ b.1 ∧ Dif (b :: l)
  | _ => True
/-- A row of stretches says of all times below e which set counts there. -/
structure Say (L : List K3) (out : List S3) (e : Int) : Prop where
  ne : ∀ s ∈ out, s.2.1 < s.2.2
  ch : Chn out
  df : Dif out
  le : ∀ s ∈ out, s.2.2 ≤ e
  is : ∀ s ∈ out, ∀ x, s.2.1 ≤ x → x < s.2.2 → Bst L x s.1
  all : ∀ x, x < e → (∃ k ∈ L, Hl k x) → ∃ s ∈ out, s.2.1 ≤ x ∧ x < s.2.2
theorem Say.start (L : List K3) (e : Int) (h : ∀ k ∈ L, e ≤ k.1) : Say L [] e :=
  ⟨(fun _ h => by cases h), List.Pairwise.nil, trivial, (fun _ h => by cases h), (fun _ h => by cases h), fun x hx ⟨k, hk, h2⟩ => by have := h k hk; unfold Hl at h2; omega⟩
/-- No set holds a time up to the next edge. -/
theorem Say.skip {L : List K3} {out : List S3} {e e' : Int} (h : Say L out e) (hee : e ≤ e') (hn : ∀ x, e ≤ x → x < e' → ∀ k ∈ L, ¬ Hl k x) : Say L out e' :=
  ⟨h.ne, h.ch, h.df, fun s hs => Int.le_trans (h.le s hs) hee, h.is, fun x hx hk => by
    by_cases hxe : x < e
    · exact h.all x hxe hk
    · obtain ⟨k, hk, h2⟩ := hk
      exact absurd h2 (hn x (by omega) hx k hk)⟩
theorem dif_snoc {l : List S3} {s : S3} (h : Dif l) (hs : ∀ t, l.getLast? = some t → t.1 ≠ s.1) : Dif (l ++ [s]) := by
  induction l with
  | nil => trivial
  | cons a l ih =>
    cases l with
    | nil => exact ⟨hs a rfl, trivial⟩
    | cons b l =>
      refine ⟨h.1, ?_⟩
      exact ih h.2 fun t ht => hs t (by simpa using ht)
theorem dif_last {l : List S3} {s s' : S3} (h : Dif (l ++ [s])) (e : s'.1 = s.1) : Dif (l ++ [s']) := by
  induction l with
  | nil => trivial
  | cons a l ih =>
    cases l with
    | nil => exact ⟨by rw [e]; exact h.1, trivial⟩
    | cons b l => exact ⟨h.1, ih h.2⟩
/-- The set k counts from the edge to the next one: another stretch. -/
theorem Say.more {L : List K3} {out : List S3} {e e' : Int} {k : K3} (h : Say L out e) (hee : e < e') (hk : ∀ x, e ≤ x → x < e' → Bst L x k) (hl : ∀ t, out.getLast? = some t → t.1 ≠ k) : Say L (out ++ [(k, e, e')]) e' := by
  refine ⟨fun s hs => ?_, ?_, dif_snoc h.df hl, fun s hs => ?_, fun s hs x h1 h2 => ?_, fun x hx hx2 => ?_⟩
  · rcases List.mem_append.1 hs with q | q
    · exact h.ne s q
    · rw [List.mem_singleton.1 q]; exact hee
  · refine List.pairwise_append.2 ⟨h.ch, List.pairwise_singleton .., fun a ha b hb => ?_⟩
    rw [List.mem_singleton.1 hb]
    exact h.le a ha
  · rcases List.mem_append.1 hs with q | q
    · have := h.le s q; omega
    · rw [List.mem_singleton.1 q]; exact Int.le_refl _
  · rcases List.mem_append.1 hs with q | q
    · exact h.is s q x h1 h2
    · rw [List.mem_singleton.1 q] at h1 h2 ⊢; exact hk x h1 h2
  · by_cases hxe : x < e
    · obtain ⟨s, hs, h2⟩ := h.all x hxe hx2
      exact ⟨s, List.mem_append_left _ hs, h2⟩
    · exact ⟨_, List.mem_append_right _ (List.mem_singleton.2 rfl), by show e ≤ x; omega, hx⟩
/-- .. or the last one becomes longer, which ends there. -/
theorem Say.long {L : List K3} {l : List S3} {a b e e' : Int} {k : K3} (h : Say L (l ++ [(k, a, b)]) e) (hee : e < e') (hk : ∀ x, e ≤ x → x < e' → Bst L x k) : b = e ∧ Say L (l ++ [(k, a, e')]) e' := by
  have hlast : (k, a, b) ∈ l ++ [(k, a, b)] := List.mem_append_right _ (List.mem_singleton.2 rfl)
  have hab : a < b := h.ne _ hlast
  have hbe : b ≤ e := h.le _ hlast
  have hbst : Bst L a k := h.is _ hlast a (Int.le_refl _) hab
  have hlE : ∀ s ∈ l, s.2.2 ≤ a := fun s hs => (List.pairwise_append.1 h.ch).2.2 s hs _ (List.mem_singleton.2 rfl)
  have e1 : b = e := by
    by_cases q : b = e
    · exact q
    · exfalso
      have hb : b < e := by omega
      have hke := (hk e (Int.le_refl _) hee).hl
      have hka := hbst.hl
      unfold Hl at hke hka
      obtain ⟨s, hs, h1, h2⟩ := h.all b hb ⟨k, hbst.mem, by unfold Hl; omega⟩
      rcases List.mem_append.1 hs with q | q
      · have := hlE s q; omega
      · rw [List.mem_singleton.1 q] at h2; simp only at h2; omega
  subst e1
  refine ⟨rfl, fun s hs => ?_, ?_, dif_last h.df rfl, fun s hs => ?_, fun s hs x h1 h2 => ?_, fun x hx hx2 => ?_⟩
  · rcases List.mem_append.1 hs with q | q
    · exact h.ne s (List.mem_append_left _ q)
    · rw [List.mem_singleton.1 q]; show a < e'; omega
  · refine List.pairwise_append.2 ⟨(List.pairwise_append.1 h.ch).1, List.pairwise_singleton .., fun s hs t ht => ?_⟩
    rw [List.mem_singleton.1 ht]
    exact hlE s hs
  · rcases List.mem_append.1 hs with q | q
    · have := h.le s (List.mem_append_left _ q); omega
    · rw [List.mem_singleton.1 q]; exact Int.le_refl _
  · rcases List.mem_append.1 hs with q | q
    · exact h.is s (List.mem_append_left _ q) x h1 h2
    · rw [List.mem_singleton.1 q] at h1 h2 ⊢
      by_cases hxb : x < b
      · exact h.is _ hlast x h1 hxb
      · exact hk x (by omega) h2
  · by_cases hxe : x < b
    · obtain ⟨s, hs, h1, h2⟩ := h.all x hxe hx2
      rcases List.mem_append.1 hs with q | q
      · exact ⟨s, List.mem_append_left _ q, h1, h2⟩
      · rw [List.mem_singleton.1 q] at h1 h2
        exact ⟨_, List.mem_append_right _ (List.mem_singleton.2 rfl), h1, by show x < e'; simp only at h2; omega⟩
    · exact ⟨_, List.mem_append_right _ (List.mem_singleton.2 rfl), by show a ≤ x; omega, hx⟩
/-- What goOn does. -/
def goF (out : List S3) (k : K3) (a b : Int) : List S3 := match out.getLast? with
  | some s => if s.1 = k then out.dropLast ++ [(s.1, s.2.1, b)] else out ++ [(k, a, b)]
  | none => out ++ [(k, a, b)]
theorem Say.goF {L : List K3} {out : List S3} {e e' : Int} {k : K3} (h : Say L out e) (hee : e < e') (hk : ∀ x, e ≤ x → x < e' → Bst L x k) : Say L (Go.Proofs.Ytgbmigfamefenaa.goF out k e e') e' := by
  unfold Go.Proofs.Ytgbmigfamefenaa.goF
  cases hl : out.getLast? with
  | none => exact h.more hee hk fun t ht => by rw [hl] at ht; cases ht
  | some s =>
    simp only
    split
    · rename_i hs
      obtain ⟨k', a, b⟩ := s
      simp only at hs
      subst hs
      have e1 : out = out.dropLast ++ [(k', a, b)] := by
        have hne : out ≠ [] := fun q => by rw [q] at hl; cases hl
        have h3 := List.dropLast_concat_getLast hne
        have h4 := List.getLast?_eq_some_getLast hne
        rw [hl] at h4
        rw [← Option.some.inj h4] at h3
        exact h3.symm
      rw [e1] at h
      have h2 := (h.long hee hk).2
      exact h2
    · rename_i hs
      exact h.more hee hk fun t ht => by rw [hl] at ht; cases ht; exact hs
/-- Rows of stretches that say the same of all times are one. -/
theorem say_unique {L M : List K3} {e : Int} (hLM : ∀ x, x < e → ∀ k, Bst L x k ↔ Bst M x k) :
    ∀ {o p : List S3}, Say L o e → Say M p e → o = p := by
  suffices ∀ (n : Nat) (o p : List S3), o.length + p.length ≤ n → ∀ b : Int, (∀ s ∈ o, b ≤ s.2.1) → (∀ s ∈ p, b ≤ s.2.1) → (∀ s ∈ o, s.2.1 < s.2.2) → (∀ s ∈ p, s.2.1 < s.2.2) → Chn o → Chn p → Dif o → Dif p → (∀ s ∈ o, s.2.2 ≤ e) → (∀ s ∈ p, s.2.2 ≤ e) →
      (∀ s ∈ o, ∀ x, s.2.1 ≤ x → x < s.2.2 → Bst L x s.1) → (∀ s ∈ p, ∀ x, s.2.1 ≤ x → x < s.2.2 → Bst M x s.1) →
      (∀ x, b ≤ x → x < e → (∃ k, Bst L x k) → ∃ s ∈ o, s.2.1 ≤ x ∧ x < s.2.2) → (∀ x, b ≤ x → x < e → (∃ k, Bst M x k) → ∃ s ∈ p, s.2.1 ≤ x ∧ x < s.2.2) → o = p by
    intro o p ho hp
    obtain ⟨b, hb1, hb2⟩ : ∃ b : Int, (∀ s ∈ o, b ≤ s.2.1) ∧ (∀ s ∈ p, b ≤ s.2.1) := by
      have one : ∀ l : List S3, ∃ b : Int, ∀ s ∈ l, b ≤ s.2.1 := by
        intro l
        induction l with
        | nil => exact ⟨0, fun _ h => by cases h⟩
        | cons a l ih =>
          obtain ⟨b, hb⟩ := ih
          refine ⟨min b a.2.1, fun s hs => ?_⟩
          rcases List.mem_cons.1 hs with q | q
          · rw [q]; omega
          · have := hb s q; omega
      obtain ⟨b1, h1⟩ := one o
      obtain ⟨b2, h2⟩ := one p
      exact ⟨min b1 b2, fun s hs => by have := h1 s hs; omega, fun s hs => by have := h2 s hs; omega⟩
    exact this _ o p (Nat.le_refl _) b hb1 hb2 ho.ne hp.ne ho.ch hp.ch ho.df hp.df ho.le hp.le ho.is hp.is (fun x _ hx ⟨k, hk⟩ => ho.all x hx ⟨k, hk.mem, hk.hl⟩) (fun x _ hx ⟨k, hk⟩ => hp.all x hx ⟨k, hk.mem, hk.hl⟩)
  intro n
  induction n with
  | zero =>
    intro o p hn b
    have h1 : o = [] := List.eq_nil_of_length_eq_zero (by omega)
    have h2 : p = [] := List.eq_nil_of_length_eq_zero (by omega)
    rw [h1, h2]
    intros
    rfl
  | succ n ih =>
    intro o p hn b bo bp no np co cp dO dP lo lp io ip ao ap
    cases o with
    | nil =>
      cases p with
      | nil => rfl
      | cons t p =>
        exfalso
        have ht := np t (List.mem_cons_self ..)
        have hb := ip t (List.mem_cons_self ..) t.2.1 (Int.le_refl _) ht
        have hle := lp t (List.mem_cons_self ..)
        obtain ⟨s, hs, -⟩ := ao t.2.1 (bp t (List.mem_cons_self ..)) (by omega) ⟨t.1, (hLM _ (by omega) _).2 hb⟩
        cases hs
    | cons s o =>
      cases p with
      | nil =>
        exfalso
        have ht := no s (List.mem_cons_self ..)
        have hb := io s (List.mem_cons_self ..) s.2.1 (Int.le_refl _) ht
        have hle := lo s (List.mem_cons_self ..)
        obtain ⟨s', hs, -⟩ := ap s.2.1 (bo s (List.mem_cons_self ..)) (by omega) ⟨s.1, (hLM _ (by omega) _).1 hb⟩
        cases hs
      | cons t p =>
        have hs := no s (List.mem_cons_self ..)
        have ht := np t (List.mem_cons_self ..)
        have hse := lo s (List.mem_cons_self ..)
        have hte := lp t (List.mem_cons_self ..)
        obtain ⟨cs, co'⟩ := List.pairwise_cons.1 co
        obtain ⟨ct, cp'⟩ := List.pairwise_cons.1 cp
        -- both begin at one time
        have hst : s.2.1 = t.2.1 := by
          have h1 : ¬ s.2.1 < t.2.1 := fun q => by
            have hb := io s (List.mem_cons_self ..) s.2.1 (Int.le_refl _) hs
            obtain ⟨u, hu, h2, h3⟩ := ap s.2.1 (bo s (List.mem_cons_self ..)) (by omega) ⟨s.1, (hLM _ (by omega) _).1 hb⟩
            rcases List.mem_cons.1 hu with r | r
            · rw [r] at h2; omega
            · have := ct u r; omega
          have h2 : ¬ t.2.1 < s.2.1 := fun q => by
            have hb := ip t (List.mem_cons_self ..) t.2.1 (Int.le_refl _) ht
            obtain ⟨u, hu, h2, h3⟩ := ao t.2.1 (bp t (List.mem_cons_self ..)) (by omega) ⟨t.1, (hLM _ (by omega) _).2 hb⟩
            rcases List.mem_cons.1 hu with r | r
            · rw [r] at h2; omega
            · have := cs u r; omega
          omega
        have hk : s.1 = t.1 := ((hLM _ (by omega) _).1 (io s (List.mem_cons_self ..) s.2.1 (Int.le_refl _) hs)).unique (by rw [hst]; exact ip t (List.mem_cons_self ..) t.2.1 (Int.le_refl _) ht)
        -- .. and end at one
        have hend : ∀ (L M : List K3) (s t : S3) (o : List S3) (p : List S3), s.2.1 = t.2.1 → s.1 = t.1 → (∀ x, x < e → ∀ k, Bst L x k ↔ Bst M x k) → s.2.2 < t.2.2 → s.2.1 < s.2.2 → t.2.2 ≤ e → b ≤ s.2.1 → Chn (s :: o) → Dif (s :: o) → (∀ u ∈ s :: o, u.2.1 < u.2.2) → (∀ u ∈ s :: o, ∀ x, u.2.1 ≤ x → x < u.2.2 → Bst L x u.1) → (∀ u ∈ t :: p, ∀ x, u.2.1 ≤ x → x < u.2.2 → Bst M x u.1) → (∀ x, b ≤ x → x < e → (∃ k, Bst L x k) → ∃ s' ∈ s :: o, s'.2.1 ≤ x ∧ x < s'.2.2) → False := by
          intro L M s t o p hst hk hLM q hs hte hb co dO no io ip ao
          have hb2 := ip t (List.mem_cons_self ..) s.2.2 (by omega) q
          have hbL := (hLM s.2.2 (by omega) t.1).2 hb2
          obtain ⟨u, hu, h2, h3⟩ := ao s.2.2 (by omega) (by omega) ⟨_, hbL⟩
          rcases List.mem_cons.1 hu with r | r
          · rw [r] at h3; omega
          · cases o with
            | nil => cases r
            | cons v o =>
              obtain ⟨cs, co'⟩ := List.pairwise_cons.1 co
              have hv := cs v (List.mem_cons_self ..)
              have hvu : v = u := by
                rcases List.mem_cons.1 r with r' | r'
                · exact r'.symm
                · exfalso
                  have h4 := (List.pairwise_cons.1 co').1 u r'
                  have h5 := no v (List.mem_cons_of_mem _ (List.mem_cons_self ..))
                  omega
              have := io u hu s.2.2 h2 h3
              have e2 := this.unique hbL
              rw [← hvu] at e2
              exact dO.1 (hk.trans e2.symm)
        have hlen : s.2.2 = t.2.2 := by
          rcases Int.lt_trichotomy s.2.2 t.2.2 with q | q | q
          · exact (hend L M s t o p hst hk hLM q hs hte (bo s (List.mem_cons_self ..)) co dO no io ip ao).elim
          · exact q
          · exact (hend M L t s p o hst.symm hk.symm (fun x hx k => (hLM x hx k).symm) q ht hse (bp t (List.mem_cons_self ..)) cp dP np ip io ap).elim
        have hEq : s = t := by
          obtain ⟨a, b', c⟩ := s
          obtain ⟨a', b'', c'⟩ := t
          simp only at hst hk hlen
          rw [hst, hk, hlen]
        subst hEq
        refine congrArg _ (ih o p (by simp at hn; omega) s.2.2 cs ct (fun u hu => no u (List.mem_cons_of_mem _ hu)) (fun u hu => np u (List.mem_cons_of_mem _ hu)) co' cp' ?_ ?_ (fun u hu => lo u (List.mem_cons_of_mem _ hu)) (fun u hu => lp u (List.mem_cons_of_mem _ hu)) (fun u hu => io u (List.mem_cons_of_mem _ hu)) (fun u hu => ip u (List.mem_cons_of_mem _ hu)) ?_ ?_)
        · cases o with
          | nil => trivial
          | cons v o => exact dO.2
        · cases p with
          | nil => trivial
          | cons v p => exact dP.2
        · intro x hx hxe hk
          obtain ⟨u, hu, h1, h2⟩ := ao x (by have := bo s (List.mem_cons_self ..); omega) hxe hk
          rcases List.mem_cons.1 hu with r | r
          · rw [r] at h2; omega
          · exact ⟨u, r, h1, h2⟩
        · intro x hx hxe hk
          obtain ⟨u, hu, h1, h2⟩ := ap x (by have := bo s (List.mem_cons_self ..); omega) hxe hk
          rcases List.mem_cons.1 hu with r | r
          · rw [r] at h2; omega
          · exact ⟨u, r, h1, h2⟩
end Go.Proofs.Ytgbmigfamefenaa
