/- What it has of facts, added one by one; what the reference has of them. No walk stands here. -/
import Derived.Test.YtkoihniggoelnaaAMath
namespace Go.Proofs.Ytkoihniggoelnaa
open Go.RowKit Go.Sort

/-- A fact with how often. -/
structure En where
  f : Fc
  n : Nat
def tot (l : List En) : Int := (l.map fun e => (e.n : Int)).sum
theorem tot_cons (e : En) (l : List En) : tot (e :: l) = e.n + tot l := by simp [tot]
theorem tot_append (x y : List En) : tot (x ++ y) = tot x + tot y := by simp [tot]
theorem tot_nonneg : ∀ l : List En, 0 ≤ tot l
  | [] => by simp [tot]
  | e :: l => by have := tot_nonneg l; rw [tot_cons]; omega
theorem tot_perm {x y : List En} (h : x.Perm y) : tot x = tot y := by
  induction h with
  | nil => rfl
  | cons a _ ih => rw [tot_cons, tot_cons, ih]
  | swap a b l => simp only [tot_cons]; omega
  | trans _ _ h1 h2 => rw [h1, h2]
theorem tot_le (l : List En) (B : Nat) (h : ∀ e ∈ l, e.n ≤ B) : tot l ≤ l.length * B := by
  induction l with
  | nil => simp [tot]
  | cons e l ih =>
    have h1 := h e (by simp)
    have h2 := ih fun e he => h e (by simp [he])
    rw [tot_cons, List.length_cons]
    have : ((l.length + 1 : Nat) : Int) * B = l.length * B + B := by simp [Int.add_mul]
    omega
/-- What an aggregator has of facts, added one by one. -/
def ofP (k c : Int) (l : List En) : P0 := l.foldl (fun p e => addP k c p e.f e.n) U0
def AOk (l : List En) : Prop := ∀ e ∈ l, FOk e.f
theorem AOk.cons {e : En} {l : List En} (h : AOk (e :: l)) : FOk e.f ∧ AOk l := ⟨h e (by simp), fun x hx => h x (by simp [hx])⟩
theorem AOk.append {x y : List En} (h : AOk x) (k : AOk y) : AOk (x ++ y) := fun e he => by
  rcases List.mem_append.1 he with h1 | h1
  · exact h e h1
  · exact k e h1
theorem Gd.add {k c M : Int} {p : P0} {e : En} (hp : Gd k M p) (he : FOk e.f) (hM : M + e.n < 18446744073709551616) : Gd k (M + e.n) (addP k c p e.f e.n) := by
  rw [addP_has hp]; exact hp.mrg (Gd.has he (by omega)) hM
theorem fold_mrg {k c : Int} : ∀ (l : List En) (M : Int) (p : P0), AOk l → Gd k M p → 0 ≤ M → M + tot l < 18446744073709551616 →
    Gd k (M + tot l) (l.foldl (fun p e => addP k c p e.f e.n) p) ∧ Gd k (tot l) (ofP k c l) ∧ l.foldl (fun p e => addP k c p e.f e.n) p = mrgP k p (ofP k c l)
  | [], M, p, _, hp, h0, _ => by
    simp only [tot, List.map_nil, List.sum_nil, Int.add_zero, List.foldl_nil, ofP]
    exact ⟨hp, Gd.unit k, (mrg_r hp).symm⟩
  | e :: l, M, p, hl, hp, h0, hM => by
    rw [tot_cons] at hM ⊢
    have ht := tot_nonneg l
    have hh := Gd.has (k := k) (c := c) hl.cons.1 (n := (e.n : Int)) (by omega)
    obtain ⟨i1, i2, i3⟩ := fold_mrg l (M + e.n) (addP k c p e.f e.n) hl.cons.2 (hp.add hl.cons.1 (by omega)) (by omega) (by omega)
    obtain ⟨j1, j2, j3⟩ := fold_mrg l (e.n : Int) (hasZ k c e.f e.n) hl.cons.2 hh (by omega) (by omega)
    have e1 : ofP k c (e :: l) = mrgP k (hasZ k c e.f e.n) (ofP k c l) := by
      show l.foldl _ (addP k c U0 e.f e.n) = _
      rw [addP_has (Gd.unit k), mrg_l hh, j3]
    refine ⟨by rw [List.foldl_cons]; exact i1.mono (by omega), ?_, ?_⟩
    · rw [e1]; exact hh.mrg i2 (by omega)
    · rw [List.foldl_cons, i3, e1, addP_has hp, mrg_assoc hp hh i2 (by omega)]
theorem of_gd {k c : Int} {l : List En} (h : AOk l) (ht : tot l < 18446744073709551616) : Gd k (tot l) (ofP k c l) := (fold_mrg l 0 U0 h (Gd.unit k) (by omega) (by omega)).2.1
theorem of_cons {k c : Int} {e : En} {l : List En} (h : AOk (e :: l)) (ht : tot (e :: l) < 18446744073709551616) : ofP k c (e :: l) = mrgP k (hasZ k c e.f e.n) (ofP k c l) := by
  rw [tot_cons] at ht
  have hh := Gd.has (k := k) (c := c) h.cons.1 (n := (e.n : Int)) (by omega)
  show l.foldl _ (addP k c U0 e.f e.n) = _
  rw [addP_has (Gd.unit k), mrg_l hh, (fold_mrg l (e.n : Int) (hasZ k c e.f e.n) h.cons.2 hh (by omega) ht).2.2]
theorem of_append {k c : Int} {x y : List En} (hx : AOk x) (hy : AOk y) (ht : tot x + tot y < 18446744073709551616) : ofP k c (x ++ y) = mrgP k (ofP k c x) (ofP k c y) := by
  have := tot_nonneg y
  show (x ++ y).foldl _ U0 = _
  rw [List.foldl_append]
  exact (fold_mrg y (tot x) (ofP k c x) hy (of_gd hx (by omega)) (tot_nonneg x) ht).2.2
theorem of_perm {k c : Int} {x y : List En} (h : x.Perm y) : AOk x → tot x < 18446744073709551616 → ofP k c x = ofP k c y := by
  induction h with
  | nil => intros; rfl
  | @cons a l m hp ih =>
    intro hx ht
    have hy : AOk (a :: m) := fun e he => hx e ((List.Perm.cons a hp).mem_iff.2 he)
    have hty : tot (a :: m) < 18446744073709551616 := by rw [← tot_perm (hp.cons a)]; exact ht
    rw [of_cons hx ht, of_cons hy hty, ih hx.cons.2 (by rw [tot_cons] at ht; omega)]
  | swap a b l =>
    intro hx ht
    have hy : AOk (a :: b :: l) := fun e he => hx e ((List.Perm.swap a b l).mem_iff.2 he)
    have hty : tot (a :: b :: l) < 18446744073709551616 := by rw [← tot_perm (List.Perm.swap a b l)]; exact ht
    have tl := tot_nonneg l
    have hA := Gd.has (k := k) (c := c) hy.cons.1 (n := (a.n : Int)) (by omega)
    have hB := Gd.has (k := k) (c := c) hx.cons.1 (n := (b.n : Int)) (by omega)
    simp only [tot_cons] at ht hty
    have hL := of_gd (k := k) (c := c) hx.cons.2.cons.2 (by omega)
    rw [of_cons hx (by simp only [tot_cons]; omega), of_cons hx.cons.2 (by simp only [tot_cons]; omega), of_cons hy (by simp only [tot_cons]; omega), of_cons hy.cons.2 (by simp only [tot_cons]; omega)]
    rw [← mrg_assoc hB hA hL (by omega), mrg_comm hB hA (by omega), mrg_assoc hA hB hL (by omega)]
  | @trans l m n h1 h2 i1 i2 =>
    intro hx ht
    have hy : AOk m := fun e he => hx e (h1.mem_iff.2 he)
    rw [i1 hx ht, i2 hy (by rw [← tot_perm h1]; exact ht)]
/-- The reference's put, a step of its loop, and its end. -/
def pstp (s : Str) (a : List Str × Bool) (t : Str) : List Str × Bool :=
  if t = s then (a.1 ++ [t], true) else if s < t ∧ a.2 = false then (a.1 ++ [s] ++ [t], true) else (a.1 ++ [t], a.2)
def putT (l : List Str) (s : Str) : List Str := if (l.foldl (pstp s) ([], false)).2 then (l.foldl (pstp s) ([], false)).1 else (l.foldl (pstp s) ([], false)).1 ++ [s]
theorem pstp_done (s : Str) : ∀ (l o : List Str), l.foldl (pstp s) (o, true) = (o ++ l, true)
  | [], o => by simp
  | t :: l, o => by
    rw [List.foldl_cons]
    have : pstp s (o, true) t = (o ++ [t], true) := by unfold pstp; split <;> simp
    rw [this, pstp_done s l]; simp
theorem pstp_ris (s : Str) : ∀ (l o : List Str), Ris l → ∃ R, (if (l.foldl (pstp s) (o, false)).2 then (l.foldl (pstp s) (o, false)).1 else (l.foldl (pstp s) (o, false)).1 ++ [s]) = o ++ R ∧ Ris R ∧ ∀ t, t ∈ R ↔ t ∈ l ∨ t = s
  | [], o, _ => ⟨[s], by simp, by simp [Ris], by simp⟩
  | x :: l, o, h => by
    have h' := List.pairwise_cons.1 h
    rw [List.foldl_cons]
    by_cases he : x = s
    · have : pstp s (o, false) x = (o ++ [x], true) := by unfold pstp; rw [if_pos he]
      rw [this, pstp_done]
      refine ⟨x :: l, by simp, h, fun t => ?_⟩
      subst he
      simp only [List.mem_cons]; constructor
      · exact fun h => .inl h
      · rintro (h | h)
        · exact h
        · exact .inl h
    · by_cases hl : s < x
      · have : pstp s (o, false) x = (o ++ [s] ++ [x], true) := by unfold pstp; rw [if_neg he, if_pos ⟨hl, rfl⟩]
        rw [this, pstp_done]
        refine ⟨s :: x :: l, by simp, List.pairwise_cons.2 ⟨fun t ht => ?_, h⟩, fun t => ?_⟩
        · rcases List.mem_cons.1 ht with rfl | ht
          · exact hl
          · exact lt_tr hl (h'.1 t ht)
        · simp only [List.mem_cons]; constructor
          · rintro (h | h | h) <;> simp [h]
          · rintro ((h | h) | h) <;> simp [h]
      · have : pstp s (o, false) x = (o ++ [x], false) := by unfold pstp; rw [if_neg he, if_neg (fun h => hl h.1)]
        rw [this]
        obtain ⟨R, hR, rR, mR⟩ := pstp_ris s l (o ++ [x]) h'.2
        have hxs : x < s := lt_of_le_ne hl he
        refine ⟨x :: R, by rw [hR]; simp, List.pairwise_cons.2 ⟨fun t ht => ?_, rR⟩, fun t => ?_⟩
        · rcases (mR t).1 ht with h1 | rfl
          · exact h'.1 t h1
          · exact hxs
        · simp only [List.mem_cons, mR]; constructor
          · rintro (h | h | h) <;> simp [h]
          · rintro ((h | h) | h) <;> simp [h]
theorem putT_ris {l : List Str} (h : Ris l) (s : Str) : putT l s = uniL l [s] := by
  obtain ⟨R, hR, rR, mR⟩ := pstp_ris s l [] h
  unfold putT
  rw [hR, List.nil_append]
  have h1 : Ris [s] := by simp [Ris]
  refine Ris.ext rR (uniL_ris h h1).1 fun t => ?_
  rw [mR, (uniL_ris h h1).2]; simp
theorem putT_len (l : List Str) (s : Str) : (putT l s).length ≤ l.length + 1 := by
  have : ∀ (l o : List Str) (b : Bool), (l.foldl (pstp s) (o, b)).1.length + (if (l.foldl (pstp s) (o, b)).2 then 0 else 1) ≤ o.length + l.length + (if b then 0 else 1) := by
    intro l
    induction l with
    | nil => intro o b; cases b <;> simp
    | cons t l ih =>
      intro o b
      rw [List.foldl_cons]
      have := ih (pstp s (o, b) t).1 (pstp s (o, b) t).2
      rw [show ((pstp s (o, b) t).1, (pstp s (o, b) t).2) = pstp s (o, b) t from rfl] at this
      have hs : (pstp s (o, b) t).1.length + (if (pstp s (o, b) t).2 then 0 else 1) ≤ o.length + 1 + (if b then 0 else 1) := by
        unfold pstp
        split
        · simp
        · split
          · next h =>
            have hb : b = false := h.2
            subst hb; simp
          · simp
      simp only [List.length_cons]
      omega
  have := this l [] false
  unfold putT
  split <;> simp_all <;> omega
theorem w64_w (a : Int) : wrap64 (wrap64 a) = wrap64 a := by unfold wrap64; omega
/-- What the reference does with one fact more. -/
def rstep (k c : Int) (p : P0) (e : En) : P0 := if e.n = 0 then p else
  (IntKind.u64.wrap (p.1 + e.n),
   if k = 2 then wrap64 (p.2.1 + wrap64 (atI e.f.ms c * wrap64 e.n)) else if k = 3 then (if p.1 = 0 ∨ atI e.f.ms c < p.2.1 then atI e.f.ms c else p.2.1) else if k = 4 then (if p.1 = 0 ∨ p.2.1 < atI e.f.ms c then atI e.f.ms c else p.2.1) else p.2.1,
   if k = 5 then putT p.2.2 (atS e.f.ds c) else p.2.2)
theorem sum_same (x n : Int) : sumV x n = wrap64 (x * wrap64 n) := by
  unfold sumV
  rw [IntKind.wrap_u64, IntKind.wrap_u64]
  have h1 : ∀ a b : Int, (a - b) % 18446744073709551616 = 0 → wrap64 a = wrap64 b := fun a b h => by unfold wrap64; omega
  refine h1 _ _ ?_
  have h2 : ∃ q, x % 18446744073709551616 = x + 18446744073709551616 * q := ⟨-(x / 18446744073709551616), by omega⟩
  have h3 : ∃ q, wrap64 n = n + 18446744073709551616 * q := ⟨-((n + 9223372036854775808) / 18446744073709551616), by unfold wrap64; omega⟩
  obtain ⟨q, hq⟩ := h2
  obtain ⟨q', hq'⟩ := h3
  rw [hq, hq']
  have e1 : (x + 18446744073709551616 * q) * n = x * n + 18446744073709551616 * (q * n) := by rw [Int.add_mul, Int.mul_assoc]
  have e2 : x * (n + 18446744073709551616 * q') = x * n + 18446744073709551616 * (x * q') := by rw [Int.mul_add, Int.mul_left_comm]
  rw [e1, e2]
  generalize x * n = u
  generalize q * n = u1
  generalize x * q' = u2
  omega
theorem rstep_add {k c M : Int} {p : P0} {e : En} (hp : Gd k M p) (he : FOk e.f) (hM : M + e.n < 18446744073709551616) : rstep k c p e = addP k c p e.f e.n := by
  have p1 := hp.n0; have p2 := hp.nM
  unfold rstep
  by_cases hn : e.n = 0
  · rw [if_pos hn]; unfold addP; rw [if_pos (by omega)]
  · rw [if_neg hn]
    have hn' : ¬ (e.n : Int) = 0 := by omega
    have hh := Gd.has (k := k) (c := c) he (n := (e.n : Int)) (by omega)
    have hz : hasZ k c e.f e.n = hasP k c e.f e.n := by unfold hasZ; rw [if_neg hn']
    rw [hz] at hh
    unfold addP
    rw [if_neg hn', u64_in (by omega) (by omega)]
    by_cases h0 : p.1 = 0
    · rw [hp.z h0, mrg_l hh]
      unfold hasP
      have hput : putT [] (atS e.f.ds c) = [atS e.f.ds c] := rfl
      by_cases h2 : k = 2
      · simp only [if_pos h2, sum_same]
        rw [if_neg (by omega : ¬ k = 5)]
        simp only [Int.zero_add, w64_w]
      · by_cases h3 : k = 3
        · subst h3; simp
        · by_cases h4 : k = 4
          · subst h4; simp
          · by_cases h5 : k = 5
            · subst h5; simp [hput]
            · simp [h2, h3, h4, h5]
    · have hn1 : (hasP k c e.f e.n).1 = e.n := by unfold hasP; repeat' split <;> try rfl
      rw [mrg_both hp hh hM h0 (by rw [hn1]; exact hn'), hn1]
      unfold jv jt hasP
      by_cases h2 : k = 2
      · subst h2; simp [sum_same, w64_r, hp.t0]
      · by_cases h3 : k = 3
        · subst h3
          simp [h0, hp.t0]
          split <;> omega
        · by_cases h4 : k = 4
          · subst h4
            simp [h0, hp.t0]
            split <;> omega
          · by_cases h5 : k = 5
            · subst h5; simp [hp.v0, putT_ris hp.tr]
            · simp [h2, h3, h4, h5, hp.v0, hp.t0]
theorem rof_same {k c : Int} : ∀ (l : List En) (M : Int) (p : P0), AOk l → Gd k M p → 0 ≤ M → M + tot l < 18446744073709551616 → l.foldl (rstep k c) p = l.foldl (fun p e => addP k c p e.f e.n) p
  | [], _, _, _, _, _, _ => rfl
  | e :: l, M, p, hl, hp, h0, hM => by
    rw [tot_cons] at hM
    have ht := tot_nonneg l
    rw [List.foldl_cons, List.foldl_cons, rstep_add hp hl.cons.1 (by omega)]
    exact rof_same l (M + e.n) _ hl.cons.2 (hp.add hl.cons.1 (by omega)) (by omega) (by omega)
end Go.Proofs.Ytkoihniggoelnaa
