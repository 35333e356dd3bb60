/- What the texts of fact hold, over this program's numbers. -/
import Derived.Test.YtkoihniggoelnaaProg
import Derived.Test.YtkoihniggoelnaaChecked
import Derived.Sort.LotA
import Derived.WalkKit
import Derived.Below
import Derived.WalkSpells
import Derived.OwnWalk
import Derived.Laws.OwnMore
import Derived.Lib.Strings
import Derived.Shelf.SlSorted.Search
import Derived.Deep.RegionWith
import Derived.Deep.QuietTactic
import Derived.Deep.DeepCutAuto
import Derived.WalkSmall
import Derived.BigQuiet
import Derived.Sort.Walk0
import Derived.Laws.AppendOwnNone
import Derived.Deep.DeepAppendWide
import Derived.Lib.SliceRun
import Derived.Deep.CutBlock
import Derived.Deep.RegionLaw
namespace Go.Proofs.Ytkoihniggoelnaa.Fa
open Go.RowKit Go.Sort

variable {α : Type} [Inhabited α]

theorem ix (d : Array α) {p q : Nat} (h : p = q) : d[p]! = d[q]! := by rw [h]

/-- Of two ranges the first n places are exchanged. -/
structure SwR (lo hi a b n : Nat) (d d' : Array α) : Prop where
  perm : PermIn lo hi d d'
  get : ∀ y, d'[y]! = if a ≤ y ∧ y < a + n then d[y + (b - a)]! else if b ≤ y ∧ y < b + n then d[y - (b - a)]! else d[y]!
theorem SwR.refl (lo hi a b : Nat) (d : Array α) : SwR lo hi a b 0 d d :=
  ⟨permIn_refl d lo hi, fun y => by rw [if_neg (by omega), if_neg (by omega)]⟩
theorem SwR.step {lo hi a b n : Nat} {d d' : Array α} (h : SwR lo hi a b n d d') (h1 : lo ≤ a) (h2 : a + n < b) (h3 : b + n < hi) (h4 : hi ≤ d.size) :
    SwR lo hi a b (n + 1) d (swp d' (a + n) (b + n)) := by
  have hs : d'.size = d.size := h.perm.1
  refine ⟨permIn_trans _ _ _ _ _ h.perm (swp_permIn d' lo hi (a + n) (b + n) (by omega) (by omega) (by omega) (by omega) (by omega)), fun y => ?_⟩
  rw [swp_get d' (by omega) (by omega)]
  simp only [h.get]
  repeat' split
  all_goals first
    | (exfalso; omega)
    | exact ix d (by omega)

/-- The row turned: what lay from m to e comes ahead of what lay from s to m. -/
def rotAt (d : Array α) (s m e x : Nat) : α :=
  if s ≤ x ∧ x < s + (e - m) then d[x + (m - s)]! else if s + (e - m) ≤ x ∧ x < e then d[x - (e - m)]! else d[x]!
theorem rot_none (d : Array α) (s m e x : Nat) (h : s = m ∨ m = e) (h1 : s ≤ m) (h2 : m ≤ e) : rotAt d s m e x = d[x]! := by
  unfold rotAt
  repeat' split
  all_goals first
    | (exfalso; omega)
    | exact ix d (by omega)

/-- A row turned, in memory. -/
structure Rot (lo hi s m e : Nat) (d d' : Array α) : Prop where
  perm : PermIn lo hi d d'
  get : ∀ x, d'[x]! = rotAt d s m e x
theorem Rot.none (lo hi s m e : Nat) (d : Array α) (h : s = m ∨ m = e) (h1 : s ≤ m) (h2 : m ≤ e) : Rot lo hi s m e d d := ⟨permIn_refl _ _ _, fun x => (rot_none d s m e x h h1 h2).symm⟩
/-- One element moves to the right, step by step. -/
theorem Rot.up {lo hi a k : Nat} {d d' : Array α} (h : Rot lo hi a (a + 1) (k + 1) d d') (h0 : lo ≤ a) (h1 : a ≤ k) (h2 : k + 1 < hi) (h3 : hi ≤ d.size) : Rot lo hi a (a + 1) (k + 1 + 1) d (swp d' k (k + 1)) := by
  have hs : d'.size = d.size := h.perm.1
  refine ⟨permIn_trans _ _ _ _ _ h.perm (swp_permIn d' lo hi k (k + 1) (by omega) (by omega) (by omega) (by omega) (by omega)), fun x => ?_⟩
  rw [swp_get d' (by omega) (by omega)]
  simp only [h.get, rotAt]
  repeat' split
  all_goals first
    | (exfalso; omega)
    | exact ix d (by omega)
variable {lt : α → α → Bool}
theorem SortedIn.part {a b a' b' : Nat} {d : Array α} (h : SortedIn lt a b d) (h1 : a ≤ a') (h2 : b' ≤ b) : SortedIn lt a' b' d := fun i j hi hij hj => h i j (by omega) hij (by omega)
theorem SortedIn.one {a b : Nat} {d : Array α} (h : b ≤ a + 1) : SortedIn lt a b d := fun i j hi hij hj => by omega
theorem SortedIn.kept {a b a' b' : Nat} {d d' : Array α} (h : SortedIn lt a b d) (hp : PermIn a' b' d d') (hd : b ≤ a' ∨ b' ≤ a) : SortedIn lt a b d' := by
  intro i j hi hij hj
  rw [hp.2.1 i (by omega), hp.2.1 j (by omega)]
  exact h i j hi hij hj

/-- Sorted block by block, from a on. -/
def BlkFrom (lt : α → α → Bool) (bs n a : Nat) (d : Array α) : Prop := ∀ q, a ≤ q * bs → SortedIn lt (q * bs) (min (q * bs + bs) n) d
def BlkTo (lt : α → α → Bool) (bs a : Nat) (d : Array α) : Prop := ∀ q, q * bs + bs ≤ a → SortedIn lt (q * bs) (q * bs + bs) d
theorem BlkTo.zero (bs : Nat) (hb : 0 < bs) (d : Array α) : BlkTo lt bs 0 d := fun q h => by omega
theorem BlkTo.next {bs q n : Nat} {d d' : Array α} (h : BlkTo lt bs (q * bs) d) (hb : 0 < bs) (hp : PermIn (q * bs) n d d') (hs : SortedIn lt (q * bs) (q * bs + bs) d') : BlkTo lt bs (q * bs + bs) d' := by
  intro p hp'
  by_cases e : p = q
  · subst e; exact hs
  · have hlt : p < q := by
      refine Nat.lt_of_le_of_ne (Nat.le_of_mul_le_mul_right (c := bs) (by omega) hb) e
    have : (p + 1) * bs ≤ q * bs := Nat.mul_le_mul_right _ hlt
    rw [Nat.add_mul, Nat.one_mul] at this
    exact SortedIn.kept (h p this) hp (.inl this)
theorem BlkFrom.next {bs n a b : Nat} {d d' : Array α} (h : BlkFrom lt bs n a d) (hp : PermIn a b d d') (hab : a ≤ b) : BlkFrom lt bs n b d' :=
  fun p hp' => SortedIn.kept (h p (by omega)) hp (.inr hp')
theorem BlkFrom.two {bs n q : Nat} {d : Array α} (h : BlkFrom lt bs n (q * (2 * bs)) d) : SortedIn lt (q * (2 * bs)) (min (q * (2 * bs) + bs) n) d ∧ SortedIn lt (q * (2 * bs) + bs) (min (q * (2 * bs) + 2 * bs) n) d := by
  have e1 : 2 * q * bs = q * (2 * bs) := by rw [Nat.mul_comm 2 q, Nat.mul_assoc]
  have e2 : (2 * q + 1) * bs = q * (2 * bs) + bs := by rw [Nat.add_mul, e1, Nat.one_mul]
  have h1 := h (2 * q) (by omega)
  have h2 := h (2 * q + 1) (by omega)
  rw [e1] at h1
  rw [e2] at h2
  exact ⟨h1, by have e3 : q * (2 * bs) + bs + bs = q * (2 * bs) + 2 * bs := by omega
                rwa [e3] at h2⟩
abbrev Str := List UInt8
/-- A way to compare that is an order: -1, 0, 1; 0 at the same alone. -/
structure Ord3 {α : Type} (c : α → α → Int) : Prop where
  rng : ∀ x y, c x y = -1 ∨ c x y = 0 ∨ c x y = 1
  eq : ∀ x y, c x y = 0 ↔ x = y
  anti : ∀ x y, c y x = - c x y
  tr : ∀ x y z, c x y < 0 → c y z < 0 → c x z < 0
theorem Ord3.refl {α : Type} {c : α → α → Int} (h : Ord3 c) (x : α) : c x x = 0 := (h.eq x x).2 rfl
theorem Ord3.pos {α : Type} {c : α → α → Int} (h : Ord3 c) {x y : α} (k : ¬ c x y < 0) (k2 : ¬ c y x < 0) : x = y := by
  have := h.anti x y
  exact (h.eq x y).1 (by omega)
/-- Numbers. -/
def cmpI (x y : Int) : Int := if x < y then -1 else if y < x then 1 else 0
theorem cmpI_ord : Ord3 cmpI := by
  refine ⟨fun x y => ?_, fun x y => ?_, fun x y => ?_, fun x y z => ?_⟩ <;> unfold cmpI
  · repeat' split
    all_goals omega
  · repeat' split
    all_goals omega
  · repeat' split
    all_goals omega
  · repeat' split
    all_goals omega
/-- Texts, byte by byte. -/
def cmpS (x y : Str) : Int := if x < y then -1 else if y < x then 1 else 0
theorem lt_irr (a : Str) : ¬ a < a := List.lt_irrefl a
theorem lt_tr {a b c : Str} (h : a < b) (k : b < c) : a < c := List.lt_trans h k
theorem eq_of_not {a b : Str} (h : ¬ a < b) (k : ¬ b < a) : a = b := List.le_antisymm (List.not_lt.1 k) (List.not_lt.1 h)
theorem cmpS_ord : Ord3 cmpS := by
  refine ⟨fun x y => ?_, fun x y => ?_, fun x y => ?_, fun x y z => ?_⟩
  · unfold cmpS; repeat' split
    all_goals simp
  · unfold cmpS
    constructor
    · intro h
      by_cases h1 : x < y
      · rw [if_pos h1] at h; omega
      · rw [if_neg h1] at h
        by_cases h2 : y < x
        · rw [if_pos h2] at h; omega
        · exact eq_of_not h1 h2
    · rintro rfl
      rw [if_neg (lt_irr x), if_neg (lt_irr x)]
  · unfold cmpS
    by_cases h1 : x < y
    · have h2 : ¬ y < x := fun k => lt_irr x (lt_tr h1 k)
      rw [if_pos h1, if_neg h2, if_pos h1]; rfl
    · rw [if_neg h1]
      by_cases h2 : y < x
      · rw [if_pos h2, if_neg h1, if_pos h2]
      · rw [if_neg h2, if_neg h1, if_neg h2]; rfl
  · unfold cmpS
    intro h1 h2
    have k1 : x < y := Classical.byContradiction fun h => by rw [if_neg h] at h1; split at h1 <;> omega
    have k2 : y < z := Classical.byContradiction fun h => by rw [if_neg h] at h2; split at h2 <;> omega
    rw [if_pos (lt_tr k1 k2)]; omega
/-- Rows, one by one; what is missing is below any. -/
def cmpR {α : Type} (c : α → α → Int) : List α → List α → Int
  | [], [] => 0
  | [], _ :: _ => -1
  | _ :: _, [] => 1
  | x :: a, y :: b => if c x y = 0 then cmpR c a b else c x y
theorem cmpR_ord {α : Type} {c : α → α → Int} (h : Ord3 c) : Ord3 (cmpR c) := by
  refine ⟨fun x => ?_, fun x => ?_, fun x => ?_, fun x => ?_⟩
  · induction x with
    | nil => intro y; cases y <;> simp [cmpR]
    | cons a r ih =>
      intro y
      cases y with
      | nil => simp [cmpR]
      | cons b s =>
        simp only [cmpR]
        split
        · exact ih s
        · exact h.rng a b
  · induction x with
    | nil => intro y; cases y <;> simp [cmpR]
    | cons a r ih =>
      intro y
      cases y with
      | nil => simp [cmpR]
      | cons b s =>
        simp only [cmpR]
        split
        · next e => rw [ih s]; have := (h.eq a b).1 e; subst this; simp
        · next e => refine ⟨fun k => absurd k e, fun k => ?_⟩; exact absurd ((h.eq a b).2 (List.cons.inj k).1) e
  · induction x with
    | nil => intro y; cases y <;> simp [cmpR]
    | cons a r ih =>
      intro y
      cases y with
      | nil => simp [cmpR]
      | cons b s =>
        simp only [cmpR]
        have k := h.anti a b
        by_cases e : c a b = 0
        · rw [if_pos e, if_pos (by omega)]; exact ih s
        · rw [if_neg e, if_neg (by omega)]; exact k
  · induction x with
    | nil =>
      intro y z h1 h2
      cases y <;> cases z <;> simp [cmpR] at *
    | cons a r ih =>
      intro y z h1 h2
      cases y with
      | nil => simp [cmpR] at h1
      | cons b s =>
        cases z with
        | nil => simp [cmpR] at h2
        | cons d u =>
          simp only [cmpR] at *
          by_cases e1 : c a b = 0
          · rw [if_pos e1] at h1
            have := (h.eq a b).1 e1
            subst this
            by_cases e2 : c a d = 0
            · rw [if_pos e2] at h2 ⊢
              exact ih s u h1 h2
            · rw [if_neg e2] at h2 ⊢
              exact h2
          · rw [if_neg e1] at h1
            by_cases e2 : c b d = 0
            · have := (h.eq b d).1 e2
              subst this
              rw [if_neg e1]; exact h1
            · rw [if_neg e2] at h2
              have := h.tr a b d h1 h2
              rw [if_neg (by omega)]; exact this
/-- What the program does: the first place where they part, else the lengths. -/
theorem cmpR_at {α : Type} {c : α → α → Int} (h : Ord3 c) : ∀ (a b : List α) (i : Nat) (hi : i < a.length) (hj : i < b.length), (∀ j (h1 : j < a.length) (h2 : j < b.length), j < i → c a[j] b[j] = 0) → c a[i] b[i] ≠ 0 → cmpR c a b = c a[i] b[i]
  | [], _, i, hi, _, _, _ => by simp at hi
  | _ :: _, [], i, _, hj, _, _ => by simp at hj
  | x :: a, y :: b, 0, _, _, _, h0 => by
    simp only [cmpR, List.getElem_cons_zero] at *
    rw [if_neg h0]
  | x :: a, y :: b, i + 1, hi, hj, hb, h0 => by
    have e := hb 0 (by simp) (by simp) (by omega)
    simp only [List.getElem_cons_zero] at e
    simp only [cmpR, List.getElem_cons_succ, if_pos e] at *
    exact cmpR_at h a b i (by simpa using hi) (by simpa using hj) (fun j h1 h2 h3 => hb (j + 1) (by simpa using h1) (by simpa using h2) (by omega)) h0
theorem cmpR_len {α : Type} {c : α → α → Int} (h : Ord3 c) : ∀ (a b : List α), (∀ j (h1 : j < a.length) (h2 : j < b.length), c a[j] b[j] = 0) → cmpR c a b = cmpI a.length b.length
  | [], [], _ => by simp [cmpR, cmpI]
  | [], _ :: _, _ => by unfold cmpI; rw [if_pos (by simp only [List.length_cons, List.length_nil]; omega)]; rfl
  | _ :: _, [], _ => by unfold cmpI; rw [if_neg (by simp only [List.length_cons, List.length_nil]; omega), if_pos (by simp only [List.length_cons, List.length_nil]; omega)]; rfl
  | x :: a, y :: b, hb => by
    have e := hb 0 (by simp) (by simp)
    simp only [List.getElem_cons_zero] at e
    have := cmpR_len h a b (fun j h1 h2 => hb (j + 1) (by simpa using h1) (by simpa using h2))
    simp only [cmpR, if_pos e, this, List.length_cons]
    unfold cmpI
    repeat' split
    all_goals omega

/-- A fact. -/
structure Ft where
  t : Int
  ds : List Str
  ms : List Int
  deriving DecidableEq
def cmpF (a b : Ft) : Int := if a.t = b.t then (if cmpR cmpS a.ds b.ds = 0 then cmpR cmpI a.ms b.ms else cmpR cmpS a.ds b.ds) else cmpI a.t b.t
theorem cmpF_ord : Ord3 cmpF := by
  have hS := cmpR_ord cmpS_ord
  have hM := cmpR_ord cmpI_ord
  refine ⟨fun x y => ?_, fun x y => ?_, fun x y => ?_, fun x y z h1 h2 => ?_⟩
  · unfold cmpF
    split
    · split
      · exact hM.rng _ _
      · exact hS.rng _ _
    · exact cmpI_ord.rng _ _
  · unfold cmpF
    constructor
    · intro h
      by_cases e1 : x.t = y.t
      · rw [if_pos e1] at h
        by_cases e2 : cmpR cmpS x.ds y.ds = 0
        · rw [if_pos e2] at h
          cases x; cases y
          simp only [Ft.mk.injEq]
          exact ⟨e1, (hS.eq _ _).1 e2, (hM.eq _ _).1 h⟩
        · rw [if_neg e2] at h; exact absurd h e2
      · rw [if_neg e1] at h; exact absurd ((cmpI_ord.eq _ _).1 h) e1
    · rintro rfl
      rw [if_pos rfl, if_pos (hS.refl _)]; exact hM.refl _
  · unfold cmpF
    have a1 := hS.anti x.ds y.ds
    have a2 := hM.anti x.ms y.ms
    have a3 := cmpI_ord.anti x.t y.t
    by_cases e1 : x.t = y.t
    · rw [if_pos e1, if_pos e1.symm]
      by_cases e2 : cmpR cmpS x.ds y.ds = 0
      · rw [if_pos e2, if_pos (by omega)]; exact a2
      · rw [if_neg e2, if_neg (by omega)]; exact a1
    · rw [if_neg e1, if_neg (fun h => e1 h.symm)]; exact a3
  · unfold cmpF at *
    by_cases e1 : x.t = y.t
    · rw [if_pos e1] at h1
      rw [← e1] at h2
      by_cases e3 : x.t = z.t
      · rw [if_pos e3] at h2 ⊢
        by_cases e2 : cmpR cmpS x.ds y.ds = 0
        · rw [if_pos e2] at h1
          rw [← (hS.eq _ _).1 e2] at h2
          by_cases e4 : cmpR cmpS x.ds z.ds = 0
          · rw [if_pos e4] at h2 ⊢
            exact hM.tr _ _ _ h1 h2
          · rw [if_neg e4] at h2 ⊢; exact h2
        · rw [if_neg e2] at h1
          by_cases e4 : cmpR cmpS y.ds z.ds = 0
          · rw [← (hS.eq _ _).1 e4, if_neg e2]; exact h1
          · rw [if_neg e4] at h2
            have := hS.tr _ _ _ h1 h2
            rw [if_neg (by omega)]; exact this
      · rw [if_neg e3] at h2 ⊢; exact h2
    · rw [if_neg e1] at h1
      by_cases e3 : y.t = z.t
      · rw [← e3, if_neg e1]; exact h1
      · rw [if_neg e3] at h2
        have := cmpI_ord.tr _ _ _ h1 h2
        have e4 : x.t ≠ z.t := fun e => by rw [e, cmpI_ord.refl] at this; omega
        rw [if_neg e4]; exact this

/-- A row of facts, each so often. -/
abbrev Row := Ft × Nat
def two64 : Nat := 18446744073709551616
/-- How often rows have a fact, and how many there are: not yet turned round. -/
def cntR (l : List Row) (f : Ft) : Nat := (l.map fun r => if r.1 = f then r.2 else 0).sum
def totR (l : List Row) : Nat := (l.map fun r => r.2).sum
theorem cntR_nil (f : Ft) : cntR [] f = 0 := rfl
theorem cntR_cons (r : Row) (l : List Row) (f : Ft) : cntR (r :: l) f = (if r.1 = f then r.2 else 0) + cntR l f := by simp [cntR]
theorem cntR_app (l m : List Row) (f : Ft) : cntR (l ++ m) f = cntR l f + cntR m f := by simp [cntR]
theorem totR_cons (r : Row) (l : List Row) : totR (r :: l) = r.2 + totR l := by simp [totR]
theorem cntR_none {l : List Row} {f : Ft} (h : ∀ r ∈ l, r.1 ≠ f) : cntR l f = 0 := by
  induction l with
  | nil => rfl
  | cons r l ih => rw [cntR_cons, if_neg (h r (by simp)), ih fun x hx => h x (by simp [hx])]
theorem cntR_all {l : List Row} {f : Ft} (h : ∀ r ∈ l, r.1 = f) : cntR l f = totR l := by
  induction l with
  | nil => rfl
  | cons r l ih => rw [cntR_cons, totR_cons, if_pos (h r (by simp)), ih fun x hx => h x (by simp [hx])]
/-- Rows that rise, with numbers that may be. -/
structure Bg (b : List Row) : Prop where
  ris : b.Pairwise fun x y => cmpF x.1 y.1 < 0
  few : ∀ r ∈ b, 0 < r.2 ∧ r.2 < two64
/-- The bag that rows stand for. -/
structure IsBag (l b : List Row) : Prop where
  bg : Bg b
  cnt : ∀ f, cntR b f % two64 = cntR l f % two64
theorem IsBag.ext {l m b : List Row} (h : IsBag l b) (k : ∀ f, cntR l f % two64 = cntR m f % two64) : IsBag m b := ⟨h.bg, fun f => by rw [h.cnt, k]⟩
theorem hide {p : Prop} (h : p) : Hid p := h
theorem below_dN {B : Nat} {a w : World} (h : Below B a w) (n : Nat) : Below B a (w.drewN n) := ⟨h.os, h.tape, h.output, h.size, h.block⟩
/-- A slice value reads as these cells: nil and nothing, or an address from which they lie. -/
def Rds (w : World) (v : Value) (xs : List Value) : Prop :=
  ∃ ao cap, v = .slice ao xs.length cap ∧ xs.length ≤ cap ∧ cap ≤ maxLen ∧ (ao = none → xs.length = 0 ∧ cap = 0) ∧
    ∀ ad, ao = some ad → ∀ j u, xs[j]? = some u → w.cell? (ad.add j) = some u
theorem Rds.nil (w : World) : Rds w (.slice none 0 0) [] := ⟨none, 0, rfl, Nat.le_refl _, Nat.zero_le _, fun _ => ⟨rfl, rfl⟩, fun _ h => by cases h⟩
/-- An owned row of cells of the type e. -/
def Own (w : World) (base e : Nat) (v : Value) (xs : List Value) : Prop := w.ownsRow base e 1 v xs.length xs
theorem Own.rds {w : World} {base e : Nat} {v : Value} {xs : List Value} (h : Own w base e v xs) : Rds w v xs := by
  have hc := h
  rcases h.2 with ⟨rfl, hn⟩ | ⟨g, cap, cur, rfl, hb, hg, hnc, hcm, hcs, ht⟩
  · have : xs = [] := List.eq_nil_of_length_eq_zero hn
    subst this
    exact Rds.nil w
  · refine ⟨some ⟨g, 0, none⟩, cap, rfl, hnc, hcm, (fun h => by cases h), ?_⟩
    rintro ad ⟨rfl⟩
    exact fun j u hj => World.ownsRow.cells hc rfl j u hj
theorem Rds.below {w w' : World} {v : Value} {xs : List Value} (h : Rds w v xs) (hb : Below w.heap.size w w') : Rds w' v xs := by
  obtain ⟨ao, cap, rfl, h1, h2, h3, h4⟩ := h
  refine ⟨ao, cap, rfl, h1, h2, h3, fun ad ha j u hj => ?_⟩
  have hc := h4 ad ha j u hj
  rw [hb.cell (World.block_lt_of_cell? _ _ hc)]
  exact hc
theorem Own.mono {w : World} {base base' e : Nat} {v : Value} {xs : List Value} (h : Own w base e v xs) (hb : base' ≤ base) : Own w base' e v xs := by
  refine ⟨h.1, ?_⟩
  rcases h.2 with h2 | ⟨g, cap, cur, h1, h2, h3⟩
  · exact .inl h2
  · exact .inr ⟨g, cap, cur, h1, by omega, h3⟩
theorem Own.below {w w' : World} {base e : Nat} {v : Value} {xs : List Value} (h : Own w base e v xs) (hb : Below w.heap.size w w') : Own w' base e v xs := by
  refine ⟨h.1, ?_⟩
  rcases h.2 with h2 | ⟨g, cap, cur, h1, h2, h3, h4⟩
  · exact .inl h2
  · refine .inr ⟨g, cap, cur, h1, h2, ?_, h4⟩
    rw [hb.block g (Array.getElem?_eq_some_iff.1 h3).1]
    exact h3
theorem Rds.cells {w : World} {ao : Option Addr} {n cap : Nat} {xs : List Value} (h : Rds w (.slice ao n cap) xs) :
    n = xs.length ∧ xs.length ≤ cap ∧ cap ≤ maxLen ∧ (0 < xs.length → ∃ b off, ao = some ⟨b, off, none⟩ ∧ ∀ i u, xs[i]? = some u → w.cell? ⟨b, off + i, none⟩ = some u) := by
  obtain ⟨ao', cap', he, h1, h2, h3, h4⟩ := h
  simp only [Value.slice.injEq] at he
  obtain ⟨rfl, rfl, rfl⟩ := he
  refine ⟨rfl, h1, h2, fun hp => ?_⟩
  cases ao with
  | none => have := (h3 rfl).1; omega
  | some ad =>
    obtain ⟨b, off, sp⟩ := ad
    have hc := h4 _ rfl
    have hs : sp = none := by
      have := World.cell?_spot (hc 0 _ (List.getElem?_eq_getElem hp))
      simpa [Addr.add] using this
    subst hs
    exact ⟨b, off, rfl, fun i u hi => by rw [← Addr.add_lit]; exact hc i _ hi⟩
/-- Texts as cells. -/
def sv (ts : List Str) : List Value := ts.map fun t => Value.string ⟨t.toArray⟩
theorem sv_length (ts : List Str) : (sv ts).length = ts.length := by simp [sv]
theorem sv_get (ts : List Str) (i : Nat) (h : i < ts.length) : (sv ts)[i]? = some (.string ⟨(ts.getD i []).toArray⟩) := by simp [sv, h]
theorem str_toList (t : Str) : (⟨t.toArray⟩ : ByteArray).toList = t := by rw [Lib.toList_data]
/-- Numbers as cells. -/
def iv (l : List Int) : List Value := l.map fun z => Value.int .i64 z
theorem iv_length (l : List Int) : (iv l).length = l.length := by simp [iv]
theorem iv_get (l : List Int) (i : Nat) (h : i < l.length) : (iv l)[i]? = some (.int .i64 (l.getD i 0)) := by simp [iv, h]
/-- A world further on: it has drawn, and blocks were laid behind. -/
def Grows (w w' : World) : Prop := ∃ q os, w' = grow (w.drewN q) os
theorem Grows.refl (w : World) : Grows w w := ⟨0, #[], by rw [grow_empty]; rfl⟩
theorem Grows.drewN (w : World) (n : Nat) : Grows w (w.drewN n) := ⟨n, #[], by rw [grow_empty]⟩
theorem Grows.alloc (w : World) (o : Obj) : Grows w (w.alloc o) := ⟨0, #[o], by rw [show w.drewN 0 = w from rfl, alloc_eq_grow]⟩
theorem Grows.trans {a b c : World} (h : Grows a b) (k : Grows b c) : Grows a c := by
  obtain ⟨q, os, rfl⟩ := h
  obtain ⟨q', os', rfl⟩ := k
  refine ⟨q + q', os ++ os', ?_⟩
  show grow (grow ((a.drewN q).drewN q') os) os' = _
  rw [grow_grow, World.drewN_drewN]
theorem Grows.below {w w' : World} (h : Grows w w') : Below w.heap.size w w' := by
  obtain ⟨q, os, rfl⟩ := h
  exact below_grown_sl _ w q os (Nat.le_refl _)

/-- A slice value reads as n elements of k cells each. -/
def RdsK (k : Nat) (w : World) (v : Value) (n : Nat) (xs : List Value) : Prop :=
  ∃ ao cap, v = .slice ao n cap ∧ xs.length = n * k ∧ n ≤ cap ∧ cap ≤ maxLen ∧ (ao = none → n = 0 ∧ cap = 0) ∧
    ∀ ad, ao = some ad → ∀ j u, xs[j]? = some u → w.cell? (ad.add j) = some u
theorem RdsK.nil (k : Nat) (w : World) : RdsK k w (.slice none 0 0) 0 [] := ⟨none, 0, rfl, by simp, Nat.le_refl _, Nat.zero_le _, fun _ => ⟨rfl, rfl⟩, fun _ h => by cases h⟩
theorem RdsK.below {k n : Nat} {w w' : World} {v : Value} {xs : List Value} (h : RdsK k w v n xs) (hb : Below w.heap.size w w') : RdsK k w' v n xs := by
  obtain ⟨ao, cap, rfl, h0, h1, h2, h3, h4⟩ := h
  refine ⟨ao, cap, rfl, h0, h1, h2, h3, fun ad ha j u hj => ?_⟩
  have hc := h4 ad ha j u hj
  rw [hb.cell (World.block_lt_of_cell? _ _ hc)]
  exact hc
theorem RdsK.of_own {k base e n : Nat} {w : World} {v : Value} {xs : List Value} (h : w.ownsRow base e k v n xs) : RdsK k w v n xs := by
  have hc := h
  rcases h.2 with ⟨rfl, rfl⟩ | ⟨g, cap, cur, rfl, hb, hg, hnc, hcm, hcs, ht⟩
  · have : xs = [] := List.eq_nil_of_length_eq_zero (by simpa using h.1)
    subst this
    exact RdsK.nil k w
  · refine ⟨some ⟨g, 0, none⟩, cap, rfl, h.1, hnc, hcm, (fun h => by cases h), ?_⟩
    rintro ad ⟨rfl⟩
    exact fun j u hj => World.ownsRow.cells hc rfl j u hj
theorem RdsK.cells {k : Nat} {w : World} {ao : Option Addr} {n m cap : Nat} {xs : List Value} (hk : 0 < k) (h : RdsK k w (.slice ao n cap) m xs) :
    n = m ∧ xs.length = m * k ∧ m ≤ cap ∧ cap ≤ maxLen ∧ (0 < m → ∃ b off, ao = some ⟨b, off, none⟩ ∧ ∀ i u, xs[i]? = some u → w.cell? ⟨b, off + i, none⟩ = some u) ∧ (ao = none → m = 0 ∧ cap = 0) := by
  obtain ⟨ao', cap', he, h0, h1, h2, h3, h4⟩ := h
  simp only [Value.slice.injEq] at he
  obtain ⟨rfl, rfl, rfl⟩ := he
  refine ⟨rfl, h0, h1, h2, fun hp => ?_, h3⟩
  cases ao with
  | none => have := (h3 rfl).1; omega
  | some ad =>
    obtain ⟨b, off, sp⟩ := ad
    have hc := h4 _ rfl
    have hl : 0 < xs.length := by rw [h0]; exact Nat.mul_pos hp hk
    have hs : sp = none := by
      have := World.cell?_spot (hc 0 _ (List.getElem?_eq_getElem hl))
      simpa [Addr.add] using this
    subst hs
    exact ⟨b, off, rfl, fun i u hi => by rw [← Addr.add_lit]; exact hc i _ hi⟩

/-- A fact as it lies in memory: its time, the values of its two slices, and what these read as. -/
structure Fc where
  t : Int
  dv : Value
  mv : Value
  ds : List Str
  ms : List Int
def Fc.ft (f : Fc) : Ft := ⟨f.t, f.ds, f.ms⟩
def Fc.cells (f : Fc) : List Value := [.int .i64 f.t, f.dv, f.mv]
/-- It reads so, and can be copied. -/
structure Fc.Ok (w : World) (f : Fc) : Prop where
  rd : Rds w f.dv (sv f.ds)
  rm : Rds w f.mv (iv f.ms)
  bd : f.ds.length * 16 ≤ 160842843834660
  bm : f.ms.length * 8 ≤ 160842843834660
theorem Fc.Ok.below {w w' : World} {f : Fc} (h : f.Ok w) (hb : Below w.heap.size w w') : f.Ok w' := ⟨h.rd.below hb, h.rm.below hb, h.bd, h.bm⟩
/-- A fact with how often. -/
structure En where
  f : Fc
  n : Nat
def En.row (e : En) : Row := (e.f.ft, e.n)
def En.cells (e : En) : List Value := [.int .i64 e.f.t, e.f.dv, e.f.mv, .int .u64 e.n]
structure En.Ok (w : World) (e : En) : Prop where
  f : e.f.Ok w
  n : e.n < two64
theorem En.Ok.below {w w' : World} {e : En} (h : e.Ok w) (hb : Below w.heap.size w w') : e.Ok w' := ⟨h.f.below hb, h.n⟩
theorem slice_one {w : World} {v : Value} {xs : List Value} (h : Rds w v xs) : v.oneCell' = true := by obtain ⟨ao, cap, rfl, _⟩ := h; rfl
theorem En.Ok.one {w : World} {e : En} (h : e.Ok w) : ∀ v ∈ e.cells, v.oneCell' = true := by
  intro v hv
  simp only [En.cells, List.mem_cons, List.not_mem_nil, or_false] at hv
  rcases hv with rfl | rfl | rfl | rfl
  · rfl
  · exact slice_one h.f.rd
  · exact slice_one h.f.rm
  · rfl
theorem Fc.Ok.one {w : World} {f : Fc} (h : f.Ok w) : ∀ v ∈ f.cells, v.oneCell' = true := by
  intro v hv
  simp only [Fc.cells, List.mem_cons, List.not_mem_nil, or_false] at hv
  rcases hv with rfl | rfl | rfl
  · rfl
  · exact slice_one h.rd
  · exact slice_one h.rm
/-- Their cells, one behind the other. -/
def ev (l : List En) : List Value := l.flatMap En.cells
def fv (l : List Fc) : List Value := l.flatMap Fc.cells
theorem ev_length (l : List En) : (ev l).length = l.length * 4 := by
  induction l with
  | nil => rfl
  | cons a l ih => simp only [ev, List.flatMap_cons, List.length_append] at *; rw [ih]; simp [En.cells]; omega
theorem ev_app (l m : List En) : ev (l ++ m) = ev l ++ ev m := by simp [ev]
theorem ev_get : ∀ (l : List En) (i c : Nat) (hi : i < l.length), c < 4 → (ev l)[i * 4 + c]? = (l[i].cells)[c]?
  | a :: l, 0, c, _, hc => by
    simp only [ev, List.flatMap_cons, List.getElem_cons_zero, Nat.zero_mul, Nat.zero_add]
    rw [List.getElem?_append_left (by simpa [En.cells] using hc)]
  | a :: l, i + 1, c, hi, hc => by
    have ih := ev_get l i c (by simpa using hi) hc
    simp only [ev, List.flatMap_cons, List.getElem_cons_succ]
    rw [List.getElem?_append_right (by simp [En.cells]; omega)]
    simp only [En.cells, List.length_cons, List.length_nil] at *
    rw [show (i + 1) * 4 + c - (0 + 1 + 1 + 1 + 1) = i * 4 + c by omega]
    exact ih
theorem fv_get : ∀ (l : List Fc) (i c : Nat) (hi : i < l.length), c < 3 → (fv l)[i * 3 + c]? = (l[i].cells)[c]?
  | a :: l, 0, c, _, hc => by
    simp only [fv, List.flatMap_cons, List.getElem_cons_zero, Nat.zero_mul, Nat.zero_add]
    rw [List.getElem?_append_left (by simpa [Fc.cells] using hc)]
  | a :: l, i + 1, c, hi, hc => by
    have ih := fv_get l i c (by simpa using hi) hc
    simp only [fv, List.flatMap_cons, List.getElem_cons_succ]
    rw [List.getElem?_append_right (by simp [Fc.cells]; omega)]
    simp only [Fc.cells, List.length_cons, List.length_nil] at *
    rw [show (i + 1) * 3 + c - (0 + 1 + 1 + 1) = i * 3 + c by omega]
    exact ih
theorem ev_one {w : World} {l : List En} (h : ∀ e ∈ l, e.Ok w) : ∀ v ∈ ev l, v.oneCell' = true := by
  intro v hv
  simp only [ev, List.mem_flatMap] at hv
  obtain ⟨e, he, hv⟩ := hv
  exact (h e he).one v hv
/-- A slice of rows, of facts. -/
structure RdsM (w : World) (v : Value) (l : List En) : Prop where
  r : RdsK 4 w v l.length (ev l)
  ok : ∀ e ∈ l, e.Ok w
structure RdsF (w : World) (v : Value) (l : List Fc) : Prop where
  r : RdsK 3 w v l.length (fv l)
  ok : ∀ e ∈ l, e.Ok w
theorem RdsM.below {w w' : World} {v : Value} {l : List En} (h : RdsM w v l) (hb : Below w.heap.size w w') : RdsM w' v l := ⟨h.r.below hb, fun e he => (h.ok e he).below hb⟩
theorem RdsF.below {w w' : World} {v : Value} {l : List Fc} (h : RdsF w v l) (hb : Below w.heap.size w w') : RdsF w' v l := ⟨h.r.below hb, fun e he => (h.ok e he).below hb⟩
theorem RdsM.nil (w : World) : RdsM w (.slice none 0 0) [] := ⟨RdsK.nil 4 w, fun _ h => by cases h⟩
def rows (l : List En) : List Row := l.map En.row
/-- append(s, x...): s the call's own, x whatever reads as elements, nil too. -/
theorem wpList_appK {P : Program} {w : World} {ops : Array Oper} {rest : List Oper} {o : Oper} {a : Act} {Q : Exit → Act → World → Prop} (hgd : o.guard = none) (s x : Operand) (t : TypeId)
    (ho : o.op = .call { callee := .builtin .append, args := #[s, x], argTypes := #[t, t] })
    (base : Nat) (e : TypeId) (i : TypeInfo) (z : Value) (size bytes : Nat) (ht : P.underlying t = some (.slice e)) (hi : P.info? e = some i) (hz : i.zero = some z)
    (hsize : i.size = size) (hby : i.bytes = bytes) (hzs : z.cells.size = size) (hsz : 0 < size)
    (v : Value) (n : Nat) (xs : List Value) (hs : a.eval s = v) (hown : w.ownsRow base e size v n xs)
    (u : Value) (m : Nat) (news : List Value) (hx : a.eval x = u) (hr : RdsK size w u m news) (h1 : ∀ u ∈ news, u.oneCell' = true)
    (h63 : n + m ≤ maxLen) (hbytes : ((n + m) + (n + m) / 4 + 192) * bytes ≤ 281474976710656) (hbase : base ≤ w.heap.size)
    (h : ∀ v' w', w'.ownsRow base e size v' (n + m) (xs ++ news) → w.grownBy w' v.ownBlock → (v' = .slice none 0 0 → v = .slice none 0 0) → wpList P ops Q rest (a.put o.dst v') w') : wpList P ops Q (o :: rest) a w := by
  obtain ⟨ao, cap, rfl, h0, h2, h3, h4, h5⟩ := hr
  cases ao with
  | none =>
    obtain ⟨rfl, rfl⟩ := h4 rfl
    have hn : news = [] := List.eq_nil_of_length_eq_zero (by simpa using h0)
    subst hn
    refine wpList_append_own_none hgd s x t ho base e i size ht hi v n xs hs hown hx ?_
    exact h v w (by simpa using hown) ⟨rfl, rfl, rfl, Nat.le_refl _, fun _ _ _ => rfl⟩ id
  | some ad =>
    exact wpList_append_own_wide w hgd s x t ho base e i z size bytes ht hi hz hsize hby hzs hsz v n xs hs hown ad m cap news hx h0 (h5 ad rfl) h1 h63 hbytes hbase fun v' w' k1 k2 k3 => h v' w' k1 k2 fun e => (k3.1 e).1

theorem Try.info_many : (Try.prog.info? 49).map (fun i => (i.zero, i.size, i.bytes)) = some (some (.agg #[.int .i64 0, .slice none 0 0, .slice none 0 0, .int .u64 0]), 4, 64) := by kernel_rfl
theorem Rds.k {w : World} {v : Value} {xs : List Value} (h : Rds w v xs) : RdsK 1 w v xs.length xs := by
  obtain ⟨ao, cap, rfl, h1, h2, h3, h4⟩ := h
  exact ⟨ao, cap, rfl, by simp, h1, h2, h3, h4⟩
def en0 : En := ⟨⟨0, .slice none 0 0, .slice none 0 0, [], []⟩, 0⟩
/-- Where the cells of one row lie. -/
theorem RdsM.at {w : World} {ao : Option Addr} {n cap : Nat} {l : List En} (h : RdsM w (.slice ao n cap) l) (h0 : 0 < l.length) :
    n = l.length ∧ n ≤ cap ∧ cap ≤ maxLen ∧ ∃ b off, ao = some ⟨b, off, none⟩ ∧ ∀ i (hi : i < l.length),
      w.cell? ⟨b, off + i * 4, none⟩ = some (.int .i64 l[i].f.t) ∧ w.cell? ⟨b, off + i * 4 + 1, none⟩ = some l[i].f.dv ∧ w.cell? ⟨b, off + i * 4 + 2, none⟩ = some l[i].f.mv ∧ w.cell? ⟨b, off + i * 4 + 3, none⟩ = some (.int .u64 l[i].n) := by
  obtain ⟨rfl, k0, k1, k2, k3, k4⟩ := h.r.cells (by decide)
  obtain ⟨b, off, rfl, hc⟩ := k3 h0
  refine ⟨rfl, k1, k2, b, off, rfl, fun i hi => ?_⟩
  have g : ∀ c, c < 4 → (ev l)[i * 4 + c]? = (l[i].cells)[c]? := fun c hc => ev_get l i c hi hc
  refine ⟨?_, ?_, ?_, ?_⟩
  · exact hc (i * 4) _ (by have := g 0 (by omega); simpa [En.cells] using this)
  · rw [Nat.add_assoc]; exact hc (i * 4 + 1) _ (by have := g 1 (by omega); simpa [En.cells] using this)
  · rw [Nat.add_assoc]; exact hc (i * 4 + 2) _ (by have := g 2 (by omega); simpa [En.cells] using this)
  · rw [Nat.add_assoc]; exact hc (i * 4 + 3) _ (by have := g 3 (by omega); simpa [En.cells] using this)
theorem RdsM.len {w : World} {ao : Option Addr} {n cap : Nat} {l : List En} (h : RdsM w (.slice ao n cap) l) : n = l.length ∧ n ≤ cap ∧ cap ≤ maxLen := by
  obtain ⟨rfl, k0, k1, k2, k3, k4⟩ := h.r.cells (by decide)
  exact ⟨rfl, k1, k2⟩
theorem RdsM.sl {w : World} {v : Value} {l : List En} (h : RdsM w v l) : ∃ ao n cap, v = .slice ao n cap := by obtain ⟨ao, cap, rfl, _⟩ := h.r; exact ⟨_, _, _, rfl⟩
theorem Rds.sl {w : World} {v : Value} {xs : List Value} (h : Rds w v xs) : ∃ a n c, v = .slice a n c := by obtain ⟨ao, cap, rfl, _⟩ := h; exact ⟨_, _, _, rfl⟩

/-- How many, turned round. -/
def totM (l : List Row) : Nat := totR l % two64
theorem wrap_add (a b : Nat) : IntKind.u64.wrap ((a : Int) + (b : Int)) = (((a + b) % two64 : Nat) : Int) := by
  rw [IntKind.wrap_u64]
  unfold two64
  omega

theorem cell_gr {w : World} {a : Addr} {v : Value} (h : w.cell? a = some v) (n : Nat) (os : Array Obj) : (grow (w.drewN n) os).cell? a = some v := cell_grown (World.block_lt_of_cell? _ _ h) h n os
theorem getD_en (l : List En) (i : Nat) (hi : i < l.length) : l.getD i en0 = l[i] := by simp [hi]
theorem own1_rds {w : World} {base e : Nat} {v : Value} {xs : List Value} {n : Nat} (h : w.ownsRow base e 1 v n xs) : Rds w v xs := by
  have hl : xs.length = n := by simpa using h.1
  subst hl
  exact Own.rds (base := base) (e := e) h
theorem own_mono {w : World} {base base' e k n : Nat} {v : Value} {xs : List Value} (h : w.ownsRow base e k v n xs) (hb : base' ≤ base) : w.ownsRow base' e k v n xs := by
  refine ⟨h.1, ?_⟩
  rcases h.2 with h2 | ⟨g, cap, cur, h1, h2, h3⟩
  · exact .inl h2
  · exact .inr ⟨g, cap, cur, h1, by omega, h3⟩
theorem own_below {w w' : World} {base e k n : Nat} {v : Value} {xs : List Value} (h : w.ownsRow base e k v n xs) (hb : Below w.heap.size w w') : w'.ownsRow base e k v n xs := by
  refine ⟨h.1, ?_⟩
  rcases h.2 with h2 | ⟨g, cap, cur, h1, h2, h3, h4⟩
  · exact .inl h2
  · refine .inr ⟨g, cap, cur, h1, h2, ?_, h4⟩
    rw [hb.block g (Array.getElem?_eq_some_iff.1 h3).1]
    exact h3
theorem own_sl {w : World} {base e k n : Nat} {v : Value} {xs : List Value} (h : w.ownsRow base e k v n xs) : ∃ a n c, v = .slice a n c := by
  rcases h.2 with ⟨rfl, _⟩ | ⟨g, cap, cur, rfl, _⟩ <;> exact ⟨_, _, _, rfl⟩
/-- A fact whose slices are new memory. -/
structure Fc.Own (w : World) (base : Nat) (f : Fc) : Prop where
  od : w.ownsRow base 9 1 f.dv f.ds.length (sv f.ds)
  om : w.ownsRow base 2 1 f.mv f.ms.length (iv f.ms)
  bd : f.ds.length * 16 ≤ 160842843834660
  bm : f.ms.length * 8 ≤ 160842843834660
theorem Fc.Own.ok {w : World} {base : Nat} {f : Fc} (h : f.Own w base) : f.Ok w := ⟨own1_rds h.od, own1_rds h.om, h.bd, h.bm⟩
theorem Fc.Own.below {w w' : World} {base : Nat} {f : Fc} (h : f.Own w base) (hb : Below w.heap.size w w') : f.Own w' base := ⟨own_below h.od hb, own_below h.om hb, h.bd, h.bm⟩
theorem Fc.Own.mono {w : World} {base base' : Nat} {f : Fc} (h : f.Own w base) (hb : base' ≤ base) : f.Own w base' := ⟨own_mono h.od hb, own_mono h.om hb, h.bd, h.bm⟩

/-- Rows up to F put together. -/
structure Grp (rs : List Row) (F : Nat) (out : List Row) : Prop where
  ris : out.Pairwise fun x y => cmpF x.1 y.1 < 0
  few : ∀ r ∈ out, 0 < r.2 ∧ r.2 < two64
  cnt : ∀ f, cntR out f % two64 = cntR (rs.take F) f % two64
  ahead : ∀ r ∈ out, ∀ j (h : j < rs.length), F ≤ j → cmpF r.1 rs[j].1 < 0
theorem Grp.nil (rs : List Row) : Grp rs 0 [] := ⟨List.Pairwise.nil, (fun _ h => by cases h), (fun f => by simp), (fun _ h => by cases h)⟩
theorem take_split (rs : List Row) {F T : Nat} (h : F ≤ T) : rs.take T = rs.take F ++ (rs.take T).drop F := by
  have := List.take_append_drop F (rs.take T)
  rw [List.take_take, Nat.min_eq_left h] at this
  exact this.symm
theorem mem_part {rs : List Row} {F T : Nat} {r : Row} (h : r ∈ (rs.take T).drop F) : ∃ j, ∃ hj : j < rs.length, F ≤ j ∧ j < T ∧ rs[j] = r := by
  obtain ⟨i, hi, e⟩ := List.getElem_of_mem h
  simp only [List.length_drop, List.length_take] at hi
  refine ⟨F + i, by omega, by omega, by omega, ?_⟩
  rw [← e, List.getElem_drop, List.getElem_take]
theorem lt_of_le_ne {a b : Ft} (h : ¬ cmpF b a < 0) (k : b ≠ a) : cmpF a b < 0 := by
  have := cmpF_ord.anti a b
  have h0 : cmpF b a ≠ 0 := fun e => k ((cmpF_ord.eq _ _).1 e)
  omega
theorem lt_of_lt_le {a b c : Ft} (h : cmpF a b < 0) (k : ¬ cmpF c b < 0) : cmpF a c < 0 := by
  by_cases e : c = b
  · rw [e]; exact h
  · exact cmpF_ord.tr _ _ _ h (lt_of_le_ne k e)
theorem Grp.step {rs out : List Row} {F T : Nat} (hs : rs.Pairwise fun x y => ¬ cmpF y.1 x.1 < 0) (h : Grp rs F out) (hF : F < rs.length) (hFT : F < T) (hT : T ≤ rs.length)
    (al : ∀ j (h : j < rs.length), F ≤ j → j < T → rs[j].1 = rs[F].1) (ne : ∀ h : T < rs.length, rs[T].1 ≠ rs[F].1) :
    Grp rs T (if totM ((rs.take T).drop F) = 0 then out else out ++ [(rs[F].1, totM ((rs.take T).drop F))]) := by
  have hg := List.pairwise_iff_getElem.1 hs
  have hnew : ∀ j (hj : j < rs.length), T ≤ j → cmpF rs[F].1 rs[j].1 < 0 := fun j hj hTj => by
    have hTl : T < rs.length := by omega
    have h1 : cmpF rs[F].1 rs[T].1 < 0 := lt_of_le_ne (hg F T hF hTl hFT) (ne hTl)
    rcases Nat.lt_or_eq_of_le hTj with h2 | h2
    · exact lt_of_lt_le h1 (hg T j hTl hj h2)
    · subst h2; exact h1
  have hpart : ∀ f, cntR ((rs.take T).drop F) f = if rs[F].1 = f then totR ((rs.take T).drop F) else 0 := fun f => by
    by_cases e : rs[F].1 = f
    · rw [if_pos e]
      refine cntR_all fun r hr => ?_
      obtain ⟨j, hj, h1, h2, rfl⟩ := mem_part hr
      rw [al j hj h1 h2]; exact e
    · rw [if_neg e]
      refine cntR_none fun r hr => ?_
      obtain ⟨j, hj, h1, h2, rfl⟩ := mem_part hr
      rw [al j hj h1 h2]; exact e
  have hcnt : ∀ f, cntR (rs.take T) f = cntR (rs.take F) f + cntR ((rs.take T).drop F) f := fun f => by
    rw [← cntR_app, ← take_split rs (by omega)]
  by_cases hz : totM ((rs.take T).drop F) = 0
  · rw [if_pos hz]
    refine ⟨h.ris, h.few, fun f => ?_, fun r hr j hj hTj => h.ahead r hr j hj (by omega)⟩
    rw [hcnt, Nat.add_mod, ← h.cnt, hpart]
    by_cases e : rs[F].1 = f
    · rw [if_pos e]
      have : totR ((rs.take T).drop F) % two64 = 0 := hz
      rw [this]; simp
    · rw [if_neg e]; simp
  · rw [if_neg hz]
    refine ⟨List.pairwise_append.2 ⟨h.ris, by simp, fun a ha b hb => ?_⟩, fun r hr => ?_, fun f => ?_, fun r hr j hj hTj => ?_⟩
    · simp only [List.mem_singleton] at hb
      subst hb
      exact h.ahead a ha F hF (Nat.le_refl _)
    · rcases List.mem_append.1 hr with hr | hr
      · exact h.few r hr
      · simp only [List.mem_singleton] at hr
        subst hr
        exact ⟨Nat.pos_of_ne_zero hz, Nat.mod_lt _ (by decide)⟩
    · rw [cntR_app, hcnt, Nat.add_mod, h.cnt, Nat.add_mod (cntR (rs.take F) f), hpart]
      congr 2
      simp only [cntR_cons, cntR_nil, Nat.add_zero]
      by_cases e : rs[F].1 = f
      · rw [if_pos e, if_pos e]
        unfold totM
        rw [Nat.mod_mod]
      · rw [if_neg e, if_neg e]
    · rcases List.mem_append.1 hr with hr | hr
      · exact h.ahead r hr j hj (by omega)
      · simp only [List.mem_singleton] at hr
        subst hr
        exact hnew j hj hTj
/-- A row of rows that is new memory. -/
structure OwnM (w : World) (base : Nat) (v : Value) (l : List En) : Prop where
  own : w.ownsRow base 49 4 v l.length (ev l)
  each : ∀ e ∈ l, e.f.Own w base
  few : ∀ e ∈ l, e.n < two64
theorem OwnM.ok {w : World} {base : Nat} {v : Value} {l : List En} (h : OwnM w base v l) : RdsM w v l := ⟨RdsK.of_own h.own, fun e he => ⟨(h.each e he).ok, h.few e he⟩⟩
theorem OwnM.below {w w' : World} {base : Nat} {v : Value} {l : List En} (h : OwnM w base v l) (hb : Go.RowKit.Below w.heap.size w w') : OwnM w' base v l := ⟨own_below h.own hb, fun e he => (h.each e he).below hb, h.few⟩
theorem OwnM.mono {w : World} {base base' : Nat} {v : Value} {l : List En} (h : OwnM w base v l) (hb : base' ≤ base) : OwnM w base' v l := ⟨own_mono h.own hb, fun e he => (h.each e he).mono hb, h.few⟩
/-- A part of a row that reads so. -/
theorem RdsM.part {w : World} {b off n cap : Nat} {l : List En} (h : RdsM w (.slice (some ⟨b, off, none⟩) n cap) l) {F T : Nat} (h1 : F ≤ T) (h2 : T ≤ l.length) : RdsM w (.slice (some ⟨b, off + F * 4, none⟩) (T - F) (cap - F)) ((l.take T).drop F) := by
  obtain ⟨rfl, k0, k1, k2, k3, k4⟩ := h.r.cells (by decide)
  have hl : ((l.take T).drop F).length = T - F := by simp; omega
  refine ⟨?_, fun e he => h.ok e (List.mem_of_mem_take (List.mem_of_mem_drop he))⟩
  rw [hl]
  refine ⟨some ⟨b, off + F * 4, none⟩, cap - F, rfl, by rw [ev_length, hl], by omega, by omega, (fun h => by cases h), ?_⟩
  rintro ad ⟨rfl⟩ j u hj
  rw [Addr.add_lit]
  have hj2 : j < (T - F) * 4 := by
    have := (List.getElem?_eq_some_iff.1 hj).1
    rw [ev_length, hl] at this
    exact this
  obtain ⟨b', off', e, hc⟩ := k3 (by omega)
  simp only [Option.some.injEq, Addr.mk.injEq, and_true] at e
  obtain ⟨rfl, rfl⟩ := e
  rw [show off + F * 4 + j = off + (F * 4 + j) by omega]
  refine hc _ _ ?_
  have e1 := ev_get ((l.take T).drop F) (j / 4) (j % 4) (by omega) (by omega)
  have e2 := ev_get l (F + j / 4) (j % 4) (by omega) (by omega)
  rw [show j / 4 * 4 + j % 4 = j by omega] at e1
  rw [show (F + j / 4) * 4 + j % 4 = F * 4 + j by omega] at e2
  rw [e2, ← hj, e1, List.getElem_drop, List.getElem_take]
theorem one_rds (w : World) (e : En) (B : Nat) (hB : B = w.heap.size) : RdsK 4 (w.alloc (.cells #[.int .i64 e.f.t, e.f.dv, e.f.mv, .int .u64 e.n] 49)) (.slice (some ⟨B, 0, none⟩) 1 1) 1 (ev [e]) := by
  subst hB
  refine ⟨some ⟨w.heap.size, 0, none⟩, 1, rfl, by simp [ev, En.cells], Nat.le_refl _, by decide, (fun h => by cases h), ?_⟩
  rintro ad ⟨rfl⟩ j u hj
  rw [Addr.add_lit, Nat.zero_add]
  have hj4 : j < 4 := by
    have := (List.getElem?_eq_some_iff.1 hj).1
    simpa [ev, En.cells] using this
  have : j = 0 ∨ j = 1 ∨ j = 2 ∨ j = 3 := by omega
  rcases this with rfl | rfl | rfl | rfl <;> simpa [ev, En.cells] using hj

/-- Where the cells of one fact lie. -/
theorem RdsF.at {w : World} {ao : Option Addr} {n cap : Nat} {l : List Fc} (h : RdsF w (.slice ao n cap) l) (h0 : 0 < l.length) :
    ∃ b off, ao = some ⟨b, off, none⟩ ∧ ∀ i (hi : i < l.length),
      w.cell? ⟨b, off + i * 3, none⟩ = some (.int .i64 l[i].t) ∧ w.cell? ⟨b, off + i * 3 + 1, none⟩ = some l[i].dv ∧ w.cell? ⟨b, off + i * 3 + 2, none⟩ = some l[i].mv := by
  obtain ⟨rfl, k0, k1, k2, k3, k4⟩ := h.r.cells (by decide)
  obtain ⟨b, off, rfl, hc⟩ := k3 h0
  refine ⟨b, off, rfl, fun i hi => ?_⟩
  have g : ∀ c, c < 3 → (fv l)[i * 3 + c]? = (l[i].cells)[c]? := fun c hc => fv_get l i c hi hc
  refine ⟨?_, ?_, ?_⟩
  · exact hc (i * 3) _ (by have := g 0 (by omega); simpa [Fc.cells] using this)
  · rw [Nat.add_assoc]; exact hc (i * 3 + 1) _ (by have := g 1 (by omega); simpa [Fc.cells] using this)
  · rw [Nat.add_assoc]; exact hc (i * 3 + 2) _ (by have := g 2 (by omega); simpa [Fc.cells] using this)
theorem RdsF.len {w : World} {ao : Option Addr} {n cap : Nat} {l : List Fc} (h : RdsF w (.slice ao n cap) l) : n = l.length ∧ n ≤ cap ∧ cap ≤ maxLen := by
  obtain ⟨rfl, k0, k1, k2, k3, k4⟩ := h.r.cells (by decide)
  exact ⟨rfl, k1, k2⟩
theorem RdsF.sl {w : World} {v : Value} {l : List Fc} (h : RdsF w v l) : ∃ ao n cap, v = .slice ao n cap := by obtain ⟨ao, cap, rfl, _⟩ := h.r; exact ⟨_, _, _, rfl⟩

end Go.Proofs.Ytkoihniggoelnaa.Fa
