/- Facts and bags of them, plainly: the order of facts, how often rows have a fact, the bag that rows stand for. No walk stands here. -/
import Derived.Test.YtgdeongeonhlpaaSMath
namespace Go.Proofs.Ytgdeongeonhlpaa
open Go.Sort

abbrev Str := List UInt8
/-- A way to compare that is an order: -1, 0, 1; 0 at the same alone. -/
structure Ord3 {α : Type} (c : α → α → Int) : Prop where
  rng : ∀ x y, c x y = -1 ∨ c x y = 0 ∨ c x y = 1
  eq : ∀ x y, c x y = 0 ↔ x = y
  anti : ∀ x y, c y x = - c x y
  tr : ∀ x y z, c x y < 0 → c y z < 0 → c x z < 0
theorem Ord3.refl {α : Type} {c : α → α → Int} (h : Ord3 c) (x : α) : c x x = 0 := (h.eq x x).2 rfl
theorem Ord3.neg {α : Type} {c : α → α → Int} (h : Ord3 c) {x y : α} (k : c x y < 0) : c x y = -1 := by rcases h.rng x y with e | e | e <;> omega
theorem Ord3.pos {α : Type} {c : α → α → Int} (h : Ord3 c) {x y : α} (k : ¬ c x y < 0) (k2 : ¬ c y x < 0) : x = y := by
  have := h.anti x y
  exact (h.eq x y).1 (by omega)
theorem Ord3.swo {α : Type} {c : α → α → Int} (h : Ord3 c) : SWO fun x y => decide (c x y < 0) := by
  refine ⟨fun x => by simp [h.refl], fun x y z h1 h2 => ?_, fun x y z h1 h2 => ?_⟩
  · simp only [decide_eq_true_eq] at *
    exact h.tr x y z h1 h2
  · simp only [decide_eq_false_iff_not] at *
    intro h3
    have a1 := h.anti x y
    have a2 := h.anti y z
    have a3 := h.anti x z
    by_cases e1 : c x y = 0
    · rw [(h.eq _ _).1 e1] at h3; exact h2 h3
    · by_cases e2 : c y z = 0
      · rw [(h.eq _ _).1 e2] at h1; exact h1 h3
      · have := h.tr z y x (by omega) (by omega)
        omega
/-- Numbers. -/
def cmpI (x y : Int) : Int := if x < y then -1 else if y < x then 1 else 0
theorem cmpI_ord : Ord3 cmpI := by
  refine ⟨fun x y => ?_, fun x y => ?_, fun x y => ?_, fun x y z => ?_⟩ <;> unfold cmpI
  · repeat' split
    all_goals omega
  · repeat' split
    all_goals omega
  · repeat' split
    all_goals omega
  · repeat' split
    all_goals omega
/-- Texts, byte by byte. -/
def cmpS (x y : Str) : Int := if x < y then -1 else if y < x then 1 else 0
theorem lt_irr (a : Str) : ¬ a < a := List.lt_irrefl a
theorem lt_tr {a b c : Str} (h : a < b) (k : b < c) : a < c := List.lt_trans h k
theorem eq_of_not {a b : Str} (h : ¬ a < b) (k : ¬ b < a) : a = b := List.le_antisymm (List.not_lt.1 k) (List.not_lt.1 h)
theorem cmpS_ord : Ord3 cmpS := by
  refine ⟨fun x y => ?_, fun x y => ?_, fun x y => ?_, fun x y z => ?_⟩
  · unfold cmpS; repeat' split
    all_goals simp
  · unfold cmpS
    constructor
    · intro h
      by_cases h1 : x < y
      · rw [if_pos h1] at h; omega
      · rw [if_neg h1] at h
        by_cases h2 : y < x
        · rw [if_pos h2] at h; omega
        · exact eq_of_not h1 h2
    · rintro rfl
      rw [if_neg (lt_irr x), if_neg (lt_irr x)]
  · unfold cmpS
    by_cases h1 : x < y
    · have h2 : ¬ y < x := fun k => lt_irr x (lt_tr h1 k)
      rw [if_pos h1, if_neg h2, if_pos h1]; rfl
    · rw [if_neg h1]
      by_cases h2 : y < x
      · rw [if_pos h2, if_neg h1, if_pos h2]
      · rw [if_neg h2, if_neg h1, if_neg h2]; rfl
  · unfold cmpS
    intro h1 h2
    have k1 : x < y := Classical.byContradiction fun h => by rw [if_neg h] at h1; split at h1 <;> omega
    have k2 : y < z := Classical.byContradiction fun h => by rw [if_neg h] at h2; split at h2 <;> omega
    rw [if_pos (lt_tr k1 k2)]; omega
/-- Rows, one by one; what is missing is below any. -/
def cmpR {α : Type} (c : α → α → Int) : List α → List α → Int
  | [], [] => 0
  | [], _ :: _ => -1
  | _ :: _, [] => 1
  | x :: a, y :: b => if c x y = 0 then cmpR c a b else c x y
theorem cmpR_ord {α : Type} {c : α → α → Int} (h : Ord3 c) : Ord3 (cmpR c) := by
  refine ⟨fun x => ?_, fun x => ?_, fun x => ?_, fun x => ?_⟩
  · induction x with
    | nil => intro y; cases y <;> simp [cmpR]
    | cons a r ih =>
      intro y
      cases y with
      | nil => simp [cmpR]
      | cons b s =>
        simp only [cmpR]
        split
        · exact ih s
        · exact h.rng a b
  · induction x with
    | nil => intro y; cases y <;> simp [cmpR]
    | cons a r ih =>
      intro y
      cases y with
      | nil => simp [cmpR]
      | cons b s =>
        simp only [cmpR]
        split
        · next e => rw [ih s]; have := (h.eq a b).1 e; subst this; simp
        · next e => refine ⟨fun k => absurd k e, fun k => ?_⟩; exact absurd ((h.eq a b).2 (List.cons.inj k).1) e
  · induction x with
    | nil => intro y; cases y <;> simp [cmpR]
    | cons a r ih =>
      intro y
      cases y with
      | nil => simp [cmpR]
      | cons b s =>
        simp only [cmpR]
        have k := h.anti a b
        by_cases e : c a b = 0
        · rw [if_pos e, if_pos (by omega)]; exact ih s
        · rw [if_neg e, if_neg (by omega)]; exact k
  · induction x with
    | nil =>
      intro y z h1 h2
      cases y <;> cases z <;> simp [cmpR] at *
    | cons a r ih =>
      intro y z h1 h2
      cases y with
      | nil => simp [cmpR] at h1
      | cons b s =>
        cases z with
        | nil => simp [cmpR] at h2
        | cons d u =>
          simp only [cmpR] at *
          by_cases e1 : c a b = 0
          · rw [if_pos e1] at h1
            have := (h.eq a b).1 e1
            subst this
            by_cases e2 : c a d = 0
            · rw [if_pos e2] at h2 ⊢
              exact ih s u h1 h2
            · rw [if_neg e2] at h2 ⊢
              exact h2
          · rw [if_neg e1] at h1
            by_cases e2 : c b d = 0
            · have := (h.eq b d).1 e2
              subst this
              rw [if_neg e1]; exact h1
            · rw [if_neg e2] at h2
              have := h.tr a b d h1 h2
              rw [if_neg (by omega)]; exact this
/-- What the program does: the first place where they part, else the lengths. -/
theorem cmpR_at {α : Type} {c : α → α → Int} (h : Ord3 c) : ∀ (a b : List α) (i : Nat) (hi : i < a.length) (hj : i < b.length), (∀ j (h1 : j < a.length) (h2 : j < b.length), j < i → c a[j] b[j] = 0) → c a[i] b[i] ≠ 0 → cmpR c a b = c a[i] b[i]
  | [], _, i, hi, _, _, _ => by simp at hi
  | _ :: _, [], i, _, hj, _, _ => by simp at hj
  | x :: a, y :: b, 0, _, _, _, h0 => by
    simp only [cmpR, List.getElem_cons_zero] at *
    rw [if_neg h0]
  | x :: a, y :: b, i + 1, hi, hj, hb, h0 => by
    have e := hb 0 (by simp) (by simp) (by omega)
    simp only [List.getElem_cons_zero] at e
    simp only [cmpR, List.getElem_cons_succ, if_pos e] at *
    exact cmpR_at h a b i (by simpa using hi) (by simpa using hj) (fun j h1 h2 h3 => hb (j + 1) (by simpa using h1) (by simpa using h2) (by omega)) h0
theorem cmpR_len {α : Type} {c : α → α → Int} (h : Ord3 c) : ∀ (a b : List α), (∀ j (h1 : j < a.length) (h2 : j < b.length), c a[j] b[j] = 0) → cmpR c a b = cmpI a.length b.length
  | [], [], _ => by simp [cmpR, cmpI]
  | [], _ :: _, _ => by unfold cmpI; rw [if_pos (by simp only [List.length_cons, List.length_nil]; omega)]; rfl
  | _ :: _, [], _ => by unfold cmpI; rw [if_neg (by simp only [List.length_cons, List.length_nil]; omega), if_pos (by simp only [List.length_cons, List.length_nil]; omega)]; rfl
  | x :: a, y :: b, hb => by
    have e := hb 0 (by simp) (by simp)
    simp only [List.getElem_cons_zero] at e
    have := cmpR_len h a b (fun j h1 h2 => hb (j + 1) (by simpa using h1) (by simpa using h2))
    simp only [cmpR, if_pos e, this, List.length_cons]
    unfold cmpI
    repeat' split
    all_goals omega

/-- A fact. -/
structure Ft where
  t : Int
  ds : List Str
  ms : List Int
  deriving DecidableEq
def cmpF (a b : Ft) : Int := if a.t = b.t then (if cmpR cmpS a.ds b.ds = 0 then cmpR cmpI a.ms b.ms else cmpR cmpS a.ds b.ds) else cmpI a.t b.t
theorem cmpF_ord : Ord3 cmpF := by
  have hS := cmpR_ord cmpS_ord
  have hM := cmpR_ord cmpI_ord
  refine ⟨fun x y => ?_, fun x y => ?_, fun x y => ?_, fun x y z h1 h2 => ?_⟩
  · unfold cmpF
    split
    · split
      · exact hM.rng _ _
      · exact hS.rng _ _
    · exact cmpI_ord.rng _ _
  · unfold cmpF
    constructor
    · intro h
      by_cases e1 : x.t = y.t
      · rw [if_pos e1] at h
        by_cases e2 : cmpR cmpS x.ds y.ds = 0
        · rw [if_pos e2] at h
          cases x; cases y
          simp only [Ft.mk.injEq]
          exact ⟨e1, (hS.eq _ _).1 e2, (hM.eq _ _).1 h⟩
        · rw [if_neg e2] at h; exact absurd h e2
      · rw [if_neg e1] at h; exact absurd ((cmpI_ord.eq _ _).1 h) e1
    · rintro rfl
      rw [if_pos rfl, if_pos (hS.refl _)]; exact hM.refl _
  · unfold cmpF
    have a1 := hS.anti x.ds y.ds
    have a2 := hM.anti x.ms y.ms
    have a3 := cmpI_ord.anti x.t y.t
    by_cases e1 : x.t = y.t
    · rw [if_pos e1, if_pos e1.symm]
      by_cases e2 : cmpR cmpS x.ds y.ds = 0
      · rw [if_pos e2, if_pos (by omega)]; exact a2
      · rw [if_neg e2, if_neg (by omega)]; exact a1
    · rw [if_neg e1, if_neg (fun h => e1 h.symm)]; exact a3
  · unfold cmpF at *
    by_cases e1 : x.t = y.t
    · rw [if_pos e1] at h1
      rw [← e1] at h2
      by_cases e3 : x.t = z.t
      · rw [if_pos e3] at h2 ⊢
        by_cases e2 : cmpR cmpS x.ds y.ds = 0
        · rw [if_pos e2] at h1
          rw [← (hS.eq _ _).1 e2] at h2
          by_cases e4 : cmpR cmpS x.ds z.ds = 0
          · rw [if_pos e4] at h2 ⊢
            exact hM.tr _ _ _ h1 h2
          · rw [if_neg e4] at h2 ⊢; exact h2
        · rw [if_neg e2] at h1
          by_cases e4 : cmpR cmpS y.ds z.ds = 0
          · rw [← (hS.eq _ _).1 e4, if_neg e2]; exact h1
          · rw [if_neg e4] at h2
            have := hS.tr _ _ _ h1 h2
            rw [if_neg (by omega)]; exact this
      · rw [if_neg e3] at h2 ⊢; exact h2
    · rw [if_neg e1] at h1
      by_cases e3 : y.t = z.t
      · rw [← e3, if_neg e1]; exact h1
      · rw [if_neg e3] at h2
        have := cmpI_ord.tr _ _ _ h1 h2
        have e4 : x.t ≠ z.t := fun e => by rw [e, cmpI_ord.refl] at this; omega
        rw [if_neg e4]; exact this

/-- A row of facts, each so often. -/
abbrev Row := Ft × Nat
def two64 : Nat := 18446744073709551616
/-- How often rows have a fact, and how many there are: not yet turned round. -/
def cntR (l : List Row) (f : Ft) : Nat := (l.map fun r => if r.1 = f then r.2 else 0).sum
def totR (l : List Row) : Nat := (l.map fun r => r.2).sum
theorem cntR_nil (f : Ft) : cntR [] f = 0 := rfl
theorem cntR_cons (r : Row) (l : List Row) (f : Ft) : cntR (r :: l) f = (if r.1 = f then r.2 else 0) + cntR l f := by simp [cntR]
theorem cntR_app (l m : List Row) (f : Ft) : cntR (l ++ m) f = cntR l f + cntR m f := by simp [cntR]
theorem cntR_perm {l m : List Row} (h : l.Perm m) (f : Ft) : cntR l f = cntR m f := (h.map _).sum_nat
theorem totR_cons (r : Row) (l : List Row) : totR (r :: l) = r.2 + totR l := by simp [totR]
theorem totR_app (l m : List Row) : totR (l ++ m) = totR l + totR m := by simp [totR]
theorem cntR_none {l : List Row} {f : Ft} (h : ∀ r ∈ l, r.1 ≠ f) : cntR l f = 0 := by
  induction l with
  | nil => rfl
  | cons r l ih => rw [cntR_cons, if_neg (h r (by simp)), ih fun x hx => h x (by simp [hx])]
theorem cntR_all {l : List Row} {f : Ft} (h : ∀ r ∈ l, r.1 = f) : cntR l f = totR l := by
  induction l with
  | nil => rfl
  | cons r l ih => rw [cntR_cons, totR_cons, if_pos (h r (by simp)), ih fun x hx => h x (by simp [hx])]
theorem sum_zero {α : Type} : ∀ D : List α, (D.map fun _ => 0).sum = 0
  | [] => rfl
  | _ :: D => by rw [List.map_cons, List.sum_cons, sum_zero D]
theorem unlike {α : Type} [DecidableEq α] : ∀ l : List α, ∃ D : List α, D.Nodup ∧ ∀ x ∈ l, x ∈ D
  | [] => ⟨[], List.nodup_nil, fun _ h => h⟩
  | a :: l => by
    obtain ⟨D, h1, h2⟩ := unlike l
    by_cases h : a ∈ D
    · exact ⟨D, h1, fun x hx => by rcases List.mem_cons.1 hx with rfl | hx; exact h; exact h2 x hx⟩
    · exact ⟨a :: D, List.nodup_cons.2 ⟨h, h1⟩, fun x hx => by rcases List.mem_cons.1 hx with rfl | hx; simp; simp [h2 x hx]⟩
/-- All of them, fact by fact. -/
theorem tot_sum (D : List Ft) (hD : D.Nodup) : ∀ l : List Row, (∀ r ∈ l, r.1 ∈ D) → (D.map (cntR l)).sum = totR l
  | [], _ => by
    have e : D.map (cntR []) = D.map fun _ => 0 := List.map_congr_left fun f _ => cntR_nil f
    rw [e, sum_zero]; rfl
  | r :: l, h => by
    have ih := tot_sum D hD l fun x hx => h x (by simp [hx])
    have e : D.map (cntR (r :: l)) = D.map fun f => (if r.1 = f then r.2 else 0) + cntR l f := List.map_congr_left fun f _ => cntR_cons r l f
    have hadd : ∀ (E : List Ft), (E.map fun f => (if r.1 = f then r.2 else 0) + cntR l f).sum = (E.map fun f => if r.1 = f then r.2 else 0).sum + (E.map (cntR l)).sum := by
      intro E
      induction E with
      | nil => rfl
      | cons x E ih => simp only [List.map_cons, List.sum_cons, ih]; omega
    have hone : ∀ (E : List Ft), E.Nodup → r.1 ∈ E → (E.map fun f => if r.1 = f then r.2 else 0).sum = r.2 := by
      intro E
      induction E with
      | nil => intro _ h; simp at h
      | cons x E ih =>
        intro hn hm
        obtain ⟨h1, h2⟩ := List.nodup_cons.1 hn
        simp only [List.map_cons, List.sum_cons]
        by_cases ex : r.1 = x
        · rw [if_pos ex]
          have hz : (E.map fun f => if r.1 = f then r.2 else 0).sum = 0 := by
            have : E.map (fun f => if r.1 = f then r.2 else 0) = E.map fun _ => 0 := List.map_congr_left fun f hf => if_neg fun e => h1 (by rw [← ex, e]; exact hf)
            rw [this, sum_zero]
          rw [hz]; rfl
        · rw [if_neg ex, ih h2 (by simpa [ex] using hm)]; omega
    rw [e, hadd, hone D hD (h r (by simp)), ih, totR_cons]
theorem tot_cong {l m : List Row} (h : ∀ f, cntR l f % two64 = cntR m f % two64) : totR l % two64 = totR m % two64 := by
  obtain ⟨D, hD, hm⟩ : ∃ D : List Ft, D.Nodup ∧ ∀ r ∈ l ++ m, r.1 ∈ D := by
    obtain ⟨D, h1, h2⟩ := unlike ((l ++ m).map (·.1))
    exact ⟨D, h1, fun r hr => h2 _ (List.mem_map.2 ⟨r, hr, rfl⟩)⟩
  rw [← tot_sum D hD l fun r hr => hm r (by simp [hr]), ← tot_sum D hD m fun r hr => hm r (by simp [hr])]
  clear hm hD
  induction D with
  | nil => rfl
  | cons x D ih =>
    simp only [List.map_cons, List.sum_cons]
    rw [Nat.add_mod, h x, ih, ← Nat.add_mod]

def ltF (a b : Ft) : Prop := cmpF a b < 0
/-- Rows that rise, with numbers that may be. -/
structure Bg (b : List Row) : Prop where
  ris : b.Pairwise fun x y => cmpF x.1 y.1 < 0
  few : ∀ r ∈ b, 0 < r.2 ∧ r.2 < two64
/-- The bag that rows stand for. -/
structure IsBag (l b : List Row) : Prop where
  bg : Bg b
  cnt : ∀ f, cntR b f % two64 = cntR l f % two64
theorem Bg.tail {r : Row} {b : List Row} (h : Bg (r :: b)) : Bg b := ⟨(List.pairwise_cons.1 h.ris).2, fun x hx => h.few x (by simp [hx])⟩
theorem Bg.head {r : Row} {b : List Row} (h : Bg (r :: b)) : ∀ x ∈ b, cmpF r.1 x.1 < 0 := (List.pairwise_cons.1 h.ris).1
theorem ltF_ne {a b : Ft} (h : cmpF a b < 0) : a ≠ b := fun e => by rw [e, cmpF_ord.refl] at h; omega
theorem ltF_ne' {a b : Ft} (h : cmpF a b < 0) : b ≠ a := fun e => ltF_ne h e.symm
theorem Bg.head_cnt {r : Row} {b : List Row} (h : Bg (r :: b)) : cntR (r :: b) r.1 = r.2 := by
  rw [cntR_cons, if_pos rfl, cntR_none fun x hx => ltF_ne' (h.head x hx)]; rfl
theorem Bg.below_cnt {r : Row} {b : List Row} (h : Bg (r :: b)) {f : Ft} (hf : cmpF f r.1 < 0) : cntR (r :: b) f = 0 :=
  cntR_none fun x hx => by
    rcases List.mem_cons.1 hx with rfl | hx
    · exact ltF_ne' hf
    · exact ltF_ne' (cmpF_ord.tr _ _ _ hf (h.head x hx))
theorem Bg.uniq : ∀ {b c : List Row}, Bg b → Bg c → (∀ f, cntR b f % two64 = cntR c f % two64) → b = c
  | [], [], _, _, _ => rfl
  | [], r :: c, _, hc, h => by
    have := h r.1
    rw [hc.head_cnt, cntR_nil, Nat.mod_eq_of_lt (hc.few r (by simp)).2] at this
    have := (hc.few r (by simp)).1
    simp at *
    omega
  | r :: b, [], hb, _, h => by
    have := h r.1
    rw [hb.head_cnt, cntR_nil, Nat.mod_eq_of_lt (hb.few r (by simp)).2] at this
    have := (hb.few r (by simp)).1
    simp at *
    omega
  | r :: b, s :: c, hb, hc, h => by
    have fr := hb.few r (by simp)
    have fs := hc.few s (by simp)
    have e : r.1 = s.1 := by
      refine cmpF_ord.pos (fun k => ?_) (fun k => ?_)
      · have := h r.1
        rw [hb.head_cnt, hc.below_cnt k, Nat.mod_eq_of_lt fr.2, Nat.zero_mod] at this
        omega
      · have := h s.1
        rw [hc.head_cnt, hb.below_cnt k, Nat.mod_eq_of_lt fs.2, Nat.zero_mod] at this
        omega
    have e2 : r.2 = s.2 := by
      have := h r.1
      rw [hb.head_cnt, e, hc.head_cnt, Nat.mod_eq_of_lt fr.2, Nat.mod_eq_of_lt fs.2] at this
      exact this
    have er : r = s := Prod.ext e e2
    subst er
    have : b = c := Bg.uniq hb.tail hc.tail fun f => by
      by_cases k : r.1 = f
      · subst k
        rw [cntR_none fun x hx => ltF_ne' (hb.head x hx), cntR_none fun x hx => ltF_ne' (hc.head x hx)]
      · have := h f
        rw [cntR_cons, cntR_cons, if_neg k] at this
        simpa using this
    rw [this]
theorem IsBag.uniq {l m b c : List Row} (hb : IsBag l b) (hc : IsBag m c) (h : ∀ f, cntR l f % two64 = cntR m f % two64) : b = c :=
  Bg.uniq hb.bg hc.bg fun f => by rw [hb.cnt, hc.cnt, h]
theorem IsBag.tot {l b : List Row} (h : IsBag l b) : totR b % two64 = totR l % two64 := tot_cong h.cnt
theorem IsBag.ext {l m b : List Row} (h : IsBag l b) (k : ∀ f, cntR l f % two64 = cntR m f % two64) : IsBag m b := ⟨h.bg, fun f => by rw [h.cnt, k]⟩
theorem Bg.self {b : List Row} (h : Bg b) : IsBag b b := ⟨h, fun _ => rfl⟩
end Go.Proofs.Ytgdeongeonhlpaa
