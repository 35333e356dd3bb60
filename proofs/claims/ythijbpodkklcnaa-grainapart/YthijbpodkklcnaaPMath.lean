/- Rising numbers, and what the reference's Parts does with them. No program stands here. -/
import Derived.Test.YthijbpodkklcnaaGMath
namespace Go.Proofs.Ythijbpodkklcnaa

def ins : List Int → Int → List Int
  | [], n => [n]
  | a :: l, n => if a < n then a :: ins l n else if a = n then a :: l else n :: a :: l
def Up (l : List Int) : Prop := l.Pairwise (· < ·)
theorem ins_mem : ∀ (l : List Int) (n x : Int), x ∈ ins l n ↔ x = n ∨ x ∈ l
  | [], n, x => by simp [ins]
  | a :: l, n, x => by
    unfold ins
    split
    · rw [List.mem_cons, ins_mem l n x, List.mem_cons]
      constructor
      · rintro (h | h | h); exact .inr (.inl h); exact .inl h; exact .inr (.inr h)
      · rintro (h | h | h); exact .inr (.inl h); exact .inl h; exact .inr (.inr h)
    · split
      · next h => subst h; simp
      · simp
theorem ins_up : ∀ (l : List Int) (n : Int), Up l → Up (ins l n)
  | [], n, _ => List.pairwise_singleton _ _
  | a :: l, n, h => by
    have h' := List.pairwise_cons.1 h
    unfold ins
    split
    · next hc =>
      refine List.pairwise_cons.2 ⟨fun x hx => ?_, ins_up l n h'.2⟩
      rcases (ins_mem l n x).1 hx with rfl | hx
      · exact hc
      · exact h'.1 x hx
    · split
      · exact h
      · refine List.pairwise_cons.2 ⟨fun x hx => ?_, h⟩
        rcases List.mem_cons.1 hx with rfl | hx
        · omega
        · have := h'.1 x hx; omega
theorem ins_length : ∀ (l : List Int) (n : Int), (ins l n).length ≤ l.length + 1
  | [], n => by simp [ins]
  | a :: l, n => by
    have := ins_length l n
    unfold ins
    split
    · simp; omega
    · split <;> simp
/-- Where it is put: behind those that are below. -/
theorem ins_at : ∀ (l : List Int) (n : Int) (k : Nat), k ≤ l.length → (∀ j (_ : j < k) (hl : j < l.length), l[j] < n) → (∀ (h : k < l.length), ¬ l[k] < n) →
    ins l n = if k < l.length ∧ l.getD k 0 = n then l else l.take k ++ [n] ++ l.drop k
  | [], n, k, hk, _, _ => by
    have : k = 0 := by simpa using hk
    subst this; simp [ins]
  | a :: l, n, 0, hk, h1, h2 => by
    have := h2 (by simp)
    simp only [List.getElem_cons_zero] at this
    unfold ins
    rw [if_neg this]
    by_cases c : a = n
    · simp [c]
    · simp [c]
  | a :: l, n, k + 1, hk, h1, h2 => by
    have ha := h1 0 (by omega) (by simp)
    simp only [List.getElem_cons_zero] at ha
    unfold ins
    rw [if_pos ha]
    rw [ins_at l n k (by simpa using hk) (fun j hj hl => by have := h1 (j + 1) (by omega) (by simpa using hl); simpa using this) (fun h => by have := h2 (by simpa using h); simpa using this)]
    by_cases c : k < l.length ∧ l.getD k 0 = n
    · rw [if_pos c, if_pos (by simpa using c)]
    · rw [if_neg c, if_neg (by simpa using c)]; simp

def edge (e : List Int) (s : Sp) : List Int := ins (ins e s.1) s.2
def edges (l : List Sp) : List Int := l.foldl edge []
theorem edges_up_aux : ∀ (l : List Sp) (e : List Int), Up e → Up (l.foldl edge e)
  | [], _, h => h
  | _ :: l, _, h => edges_up_aux l _ (ins_up _ _ (ins_up _ _ h))
theorem edges_up (l : List Sp) : Up (edges l) := edges_up_aux l [] List.Pairwise.nil
theorem edges_mem_aux : ∀ (l : List Sp) (e : List Int) (x : Int), x ∈ l.foldl edge e ↔ x ∈ e ∨ ∃ s ∈ l, x = s.1 ∨ x = s.2
  | [], e, x => by simp
  | s :: l, e, x => by
    rw [List.foldl_cons, edges_mem_aux l, edge, ins_mem, ins_mem]
    simp only [List.mem_cons, exists_eq_or_imp]
    constructor
    · rintro ((h | h | h) | h)
      · exact .inr (.inl (.inr h))
      · exact .inr (.inl (.inl h))
      · exact .inl h
      · exact .inr (.inr h)
    · rintro (h | (h | h) | h)
      · exact .inl (.inr (.inr h))
      · exact .inl (.inr (.inl h))
      · exact .inl (.inl h)
      · exact .inr h
theorem edges_mem (l : List Sp) (x : Int) : x ∈ edges l ↔ ∃ s ∈ l, x = s.1 ∨ x = s.2 := by
  unfold edges; rw [edges_mem_aux]; simp
theorem edges_length_aux : ∀ (l : List Sp) (e : List Int), (l.foldl edge e).length ≤ e.length + 2 * l.length
  | [], e => by simp
  | s :: l, e => by
    have h1 := edges_length_aux l (edge e s)
    have h2 := ins_length (ins e s.1) s.2
    have h3 := ins_length e s.1
    rw [List.foldl_cons, List.length_cons]
    unfold edge at *
    omega
theorem edges_length (l : List Sp) : (edges l).length ≤ 2 * l.length := by unfold edges; have := edges_length_aux l []; simpa using this

/-- Is a moment wanted? -/
def want (a b : List Sp) (t : Int) : Bool := any a t && !any b t
/-- One stretch more. -/
def pst (o : List Sp) (f t : Int) : List Sp :=
  if 0 < o.length ∧ (o.getD (o.length - 1) (0, 0)).2 = f then o.set (o.length - 1) ((o.getD (o.length - 1) (0, 0)).1, t) else o ++ [(f, t)]
/-- The stretches up to the i-th edge. -/
def prt (a b : List Sp) (e : List Int) : Nat → List Sp
  | 0 => []
  | i + 1 => if want a b (e.getD i 0) then pst (prt a b e i) (e.getD i 0) (e.getD (i + 1) 0) else prt a b e i
theorem pst_nil (f t : Int) : pst [] f t = [(f, t)] := by simp [pst]
theorem pst_app (o : List Sp) (p : Sp) (f t : Int) : pst (o ++ [p]) f t = if p.2 = f then o ++ [(p.1, t)] else o ++ [p] ++ [(f, t)] := by
  unfold pst; simp
theorem pst_length (o : List Sp) (f t : Int) : (pst o f t).length ≤ o.length + 1 := by unfold pst; split <;> simp
theorem prt_length (a b : List Sp) (e : List Int) : ∀ i, (prt a b e i).length ≤ i
  | 0 => by simp [prt]
  | i + 1 => by
    have := prt_length a b e i
    unfold prt
    split
    · have := pst_length (prt a b e i) (e.getD i 0) (e.getD (i + 1) 0); omega
    · omega
/-- Between two edges nothing changes. -/
theorem any_between {e : List Int} (hu : Up e) {l : List Sp} (hl : ∀ s ∈ l, s.1 ∈ e ∧ s.2 ∈ e) {i : Nat} (hi : i + 1 < e.length) {t : Int} (h1 : e.getD i 0 ≤ t) (h2 : t < e.getD (i + 1) 0) : any l t = any l (e.getD i 0) := by
  have key : ∀ x ∈ e, x ≤ e.getD i 0 ∨ e.getD (i + 1) 0 ≤ x := fun x hx => by
    obtain ⟨j, hj, rfl⟩ := List.getElem_of_mem hx
    have eg : ∀ k (hk : k < e.length), e.getD k 0 = e[k] := fun k hk => by simp [hk]
    rw [eg i (by omega), eg (i + 1) hi]
    by_cases c : j ≤ i
    · rcases Nat.lt_or_eq_of_le c with c | c
      · exact .inl (Int.le_of_lt (List.pairwise_iff_getElem.1 hu j i hj (by omega) c))
      · subst c; exact .inl (Int.le_refl _)
    · rcases Nat.lt_or_eq_of_le (show i + 1 ≤ j by omega) with c | c
      · exact .inr (Int.le_of_lt (List.pairwise_iff_getElem.1 hu (i + 1) j hi hj c))
      · subst c; exact .inr (Int.le_refl _)
  rw [Bool.eq_iff_iff, any_iff, any_iff]
  constructor <;> (rintro ⟨s, hs, k1, k2⟩; refine ⟨s, hs, ?_⟩; have g1 := key _ (hl s hs).1; have g2 := key _ (hl s hs).2; omega)
structure PInv (a b : List Sp) (e : List Int) (i : Nat) (out : List Sp) : Prop where
  norm : Norm out
  upto : ∀ p ∈ out, p.2 ≤ e.getD i 0
  all : ∀ t, any out t = true ↔ t < e.getD i 0 ∧ want a b t = true
theorem prt_inv {a b : List Sp} {e : List Int} (hu : Up e) (ha : ∀ s ∈ a, s.1 ∈ e ∧ s.2 ∈ e) (hb : ∀ s ∈ b, s.1 ∈ e ∧ s.2 ∈ e) : ∀ i, i < e.length → PInv a b e i (prt a b e i)
  | 0, hi => by
    refine ⟨Norm.nil, fun _ h => by simp [prt] at h, fun t => ?_⟩
    rw [prt, any_nil]
    constructor
    · intro h; cases h
    · rintro ⟨h1, h2⟩
      unfold want at h2
      rw [Bool.and_eq_true] at h2
      obtain ⟨s, hs, k1, k2⟩ := (any_iff _ _).1 h2.1
      obtain ⟨j, hj, hj'⟩ := List.getElem_of_mem (ha s hs).1
      have e0 : e.getD 0 0 = e[0] := by simp [hi]
      rw [e0] at h1
      rcases Nat.eq_zero_or_pos j with c | c
      · subst c; omega
      · have := List.pairwise_iff_getElem.1 hu 0 j (by omega) hj c; omega
  | i + 1, hi => by
    have ih := prt_inv hu ha hb i (by omega)
    have hlt : e.getD i 0 < e.getD (i + 1) 0 := by
      have := List.pairwise_iff_getElem.1 hu i (i + 1) (by omega) hi (by omega)
      have e1 : e.getD i 0 = e[i] := by simp [show i < e.length by omega]
      have e2 : e.getD (i + 1) 0 = e[i + 1] := by simp [hi]
      rw [e1, e2]; exact this
    have hbt : ∀ t, e.getD i 0 ≤ t → t < e.getD (i + 1) 0 → want a b t = want a b (e.getD i 0) := fun t h1 h2 => by
      unfold want; rw [any_between hu ha hi h1 h2, any_between hu hb hi h1 h2]
    rw [prt]
    by_cases c : want a b (e.getD i 0) = true
    · rw [if_pos c]
      generalize prt a b e i = out at *
      have hall : ∀ t, (any out t = true ∨ (e.getD i 0 ≤ t ∧ t < e.getD (i + 1) 0)) ↔ (t < e.getD (i + 1) 0 ∧ want a b t = true) := fun t => by
        rw [ih.all]
        constructor
        · rintro (⟨h1, h2⟩ | ⟨h1, h2⟩)
          · exact ⟨by omega, h2⟩
          · exact ⟨h2, by rw [hbt t h1 h2]; exact c⟩
        · rintro ⟨h1, h2⟩
          by_cases c2 : t < e.getD i 0
          · exact .inl ⟨c2, h2⟩
          · exact .inr ⟨by omega, h1⟩
      rcases last_cases out with rfl | ⟨o, p, rfl⟩
      · rw [pst_nil]
        refine ⟨Norm.push Norm.nil hlt (fun _ h => by cases h), fun q hq => ?_, fun t => ?_⟩
        · simp only [List.mem_singleton] at hq; subst hq; exact Int.le_refl _
        · rw [← hall, any_cons, any_nil, Bool.or_false, hol_iff]
          simp
      · have hp := ih.upto p (by simp)
        rw [pst_app]
        by_cases c2 : p.2 = e.getD i 0
        · rw [if_pos c2]
          refine ⟨ih.norm.grow (by omega), fun q hq => ?_, fun t => ?_⟩
          · rcases List.mem_append.1 hq with hq | hq
            · have := ih.upto q (by simp [hq]); omega
            · simp only [List.mem_singleton] at hq; subst hq; exact Int.le_refl _
          · rw [← hall, any_app, any_app, Bool.or_eq_true, Bool.or_eq_true, any_cons, any_cons, any_nil, Bool.or_false, Bool.or_false, hol_iff, hol_iff]
            have hf := ih.norm.full p (by simp)
            simp only
            constructor
            · rintro (h | ⟨h1, h2⟩)
              · exact .inl (.inl h)
              · by_cases c3 : t < p.2
                · exact .inl (.inr ⟨h1, c3⟩)
                · exact .inr ⟨by omega, h2⟩
            · rintro ((h | ⟨h1, h2⟩) | ⟨h1, h2⟩)
              · exact .inl h
              · exact .inr ⟨h1, by omega⟩
              · exact .inr ⟨by omega, h2⟩
        · rw [if_neg c2]
          refine ⟨ih.norm.push hlt fun q hq => ?_, fun q hq => ?_, fun t => ?_⟩
          · show q.2 < e.getD i 0
            rcases List.mem_append.1 hq with hq | hq
            · have h1 := (List.pairwise_append.1 ih.norm.up).2.2 q hq p (by simp)
              have h2 := ih.norm.full p (by simp)
              omega
            · simp only [List.mem_singleton] at hq; subst hq; omega
          · rcases List.mem_append.1 hq with hq | hq
            · have := ih.upto q hq; omega
            · simp only [List.mem_singleton] at hq; subst hq; exact Int.le_refl _
          · rw [← hall, any_app, Bool.or_eq_true, any_cons, any_nil, Bool.or_false, hol_iff]
    · rw [if_neg c]
      refine ⟨ih.norm, fun q hq => by have := ih.upto q hq; omega, fun t => ?_⟩
      rw [ih.all]
      constructor
      · rintro ⟨h1, h2⟩; exact ⟨by omega, h2⟩
      · rintro ⟨h1, h2⟩
        by_cases c2 : t < e.getD i 0
        · exact ⟨c2, h2⟩
        · rw [hbt t (by omega) h1] at h2; exact absurd h2 c
/-- The reference's answer. -/
def parts (a b : List Sp) : List Sp := prt a b (edges (a ++ b)) ((edges (a ++ b)).length - 1)
theorem parts_norm (a b : List Sp) : Norm (parts a b) ∧ ∀ t, any (parts a b) t = want a b t := by
  have hu := edges_up (a ++ b)
  have ha : ∀ s ∈ a, s.1 ∈ edges (a ++ b) ∧ s.2 ∈ edges (a ++ b) := fun s hs => ⟨(edges_mem _ _).2 ⟨s, by simp [hs], .inl rfl⟩, (edges_mem _ _).2 ⟨s, by simp [hs], .inr rfl⟩⟩
  have hb : ∀ s ∈ b, s.1 ∈ edges (a ++ b) ∧ s.2 ∈ edges (a ++ b) := fun s hs => ⟨(edges_mem _ _).2 ⟨s, by simp [hs], .inl rfl⟩, (edges_mem _ _).2 ⟨s, by simp [hs], .inr rfl⟩⟩
  unfold parts
  generalize edges (a ++ b) = e at *
  rcases Nat.eq_zero_or_pos e.length with h0 | h0
  · have ea : a = [] := by
      cases a with
      | nil => rfl
      | cons s a => have := (ha s (by simp)).1; rw [List.eq_nil_of_length_eq_zero h0] at this; cases this
    subst ea
    rw [h0]
    exact ⟨Norm.nil, fun t => by simp [prt, want, any]⟩
  · have inv := prt_inv hu ha hb (e.length - 1) (by omega)
    refine ⟨inv.norm, fun t => ?_⟩
    rw [Bool.eq_iff_iff, inv.all]
    constructor
    · exact fun h => h.2
    · intro h
      refine ⟨?_, h⟩
      unfold want at h
      rw [Bool.and_eq_true] at h
      obtain ⟨s, hs, k1, k2⟩ := (any_iff _ _).1 h.1
      obtain ⟨j, hj, hj'⟩ := List.getElem_of_mem (ha s hs).2
      have e1 : e.getD (e.length - 1) 0 = e[e.length - 1] := by simp [show e.length - 1 < e.length by omega]
      rw [e1]
      rcases Nat.lt_or_ge j (e.length - 1) with c | c
      · have := List.pairwise_iff_getElem.1 hu j (e.length - 1) hj (by omega) c; omega
      · have : j = e.length - 1 := by omega
        subst this; omega
end Go.Proofs.Ythijbpodkklcnaa
