/- What it has of a bag is what it has of the facts, each as often as it is there. No walk stands here. -/
import Derived.Test.YtkoihniggoelnaaOMath
import Derived.Test.YtkoihniggoelnaaFa1
namespace Go.Proofs.Ytkoihniggoelnaa
open Go.RowKit Go.Sort

def toF (f : Fa.Fc) : Fc := ⟨f.t, f.dv, f.mv, f.ds, f.ms⟩
def toE (e : Fa.En) : En := ⟨toF e.f, e.n⟩
def frF (f : Fc) : Fa.Fc := ⟨f.t, f.dv, f.mv, f.ds, f.ms⟩
def frE (e : En) : Fa.En := ⟨frF e.f, e.n⟩
theorem to_fr (l : List En) : (l.map frE).map toE = l := by
  induction l with
  | nil => rfl
  | cons e l ih => rw [List.map_cons, List.map_cons, ih]; rfl
theorem has_ft {k c : Int} {f g : Fa.Fc} (h : f.ft = g.ft) (n : Int) : hasZ k c (toF f) n = hasZ k c (toF g) n := by
  have h1 : f.ds = g.ds := congrArg Fa.Ft.ds h
  have h2 : f.ms = g.ms := congrArg Fa.Ft.ms h
  unfold hasZ hasP toF
  simp only [h1, h2]
theorem w64_u (a : Int) : wrap64 (IntKind.u64.wrap a) = wrap64 a := by rw [IntKind.wrap_u64]; unfold wrap64; omega
theorem sumV_add (x m n : Int) : sumV x (m + n) = wrap64 (sumV x m + sumV x n) := by
  unfold sumV
  rw [w64_u, w64_u, w64_u, w64_l, w64_r, Int.mul_add]
theorem has_add {k c : Int} {f : Fc} {m n : Int} (hf : FOk f) (hm : 0 ≤ m) (hn : 0 ≤ n) (h : m + n < 18446744073709551616) : hasZ k c f (m + n) = mrgP k (hasZ k c f m) (hasZ k c f n) := by
  have gm := Gd.has (k := k) (c := c) hf hm
  have gn := Gd.has (k := k) (c := c) hf hn
  by_cases m0 : m = 0
  · have : hasZ k c f m = U0 := by unfold hasZ; rw [if_pos m0]
    rw [this, mrg_l gn, m0, Int.zero_add]
  · by_cases n0 : n = 0
    · have : hasZ k c f n = U0 := by unfold hasZ; rw [if_pos n0]
      rw [this, mrg_r gm, n0, Int.add_zero]
    · have e1 : hasZ k c f m = hasP k c f m := by unfold hasZ; rw [if_neg m0]
      have e2 : hasZ k c f n = hasP k c f n := by unfold hasZ; rw [if_neg n0]
      have e3 : hasZ k c f (m + n) = hasP k c f (m + n) := by unfold hasZ; rw [if_neg (by omega)]
      have hn1 : ∀ j, (hasP k c f j).1 = j := fun j => hasP_n k c f j
      rw [mrg_both gm gn (by omega) (by rw [e1, hn1]; exact m0) (by rw [e2, hn1]; exact n0), e1, e2, e3, hn1, hn1]
      unfold jv jt hasP
      by_cases h2 : k = 2
      · subst h2; simp [sumV_add]
      · by_cases h3 : k = 3
        · subst h3; simp
        · by_cases h4 : k = 4
          · subst h4; simp
          · by_cases h5 : k = 5
            · subst h5
              simp
              have r1 : Ris [Go.Proofs.Ytkoihniggoelnaa.atS f.ds c] := by simp [Ris]
              rw [← putT_ris r1]
              simp [putT, pstp]
            · simp [h2, h3, h4, h5]
theorem mrg_swap {k M M' M'' : Int} {p q r : P0} (hp : Gd k M p) (hq : Gd k M' q) (hr : Gd k M'' r) (h0 : 0 ≤ M'') (hM : M + M' + M'' < 18446744073709551616) : mrgP k p (mrgP k q r) = mrgP k q (mrgP k p r) := by
  rw [← mrg_assoc hp hq hr hM, mrg_comm hp hq (by omega), mrg_assoc hq hp hr (by omega)]
theorem put_of {k c : Int} (b : List Fa.En) (f : Fa.Fc) (n : Nat) (ha : AOk (b.map toE)) (hf : FOk (toF f)) (ht : tot (b.map toE) + n < 18446744073709551616) :
    ofP k c ((Fa.putL b f n).map toE) = mrgP k (hasZ k c (toF f) n) (ofP k c (b.map toE)) ∧ AOk ((Fa.putL b f n).map toE) ∧ tot ((Fa.putL b f n).map toE) = tot (b.map toE) + n := by
  induction b with
  | nil =>
    have a1 : AOk [toE ⟨f, n⟩] := fun e he => by simp at he; subst he; exact hf
    have z0 : tot (([] : List Fa.En).map toE) = 0 := rfl
    have z1 : tot [toE ⟨f, n⟩] = n := by rw [tot_cons]; show (n : Int) + 0 = n; omega
    rw [z0] at ht
    refine ⟨of_cons (k := k) (c := c) (l := []) a1 (by rw [z1]; omega), a1, ?_⟩
    rw [z0, Int.zero_add]
    exact z1
  | cons e l ih =>
    obtain ⟨he, hl⟩ := ha.cons
    rw [List.map_cons, tot_cons] at ht
    have t0 := tot_nonneg (l.map toE)
    have en : ((toE e).n : Int) = e.n := rfl
    have ge := Gd.has (k := k) (c := c) he (n := ((toE e).n : Int)) (by omega)
    have gf := Gd.has (k := k) (c := c) hf (n := (n : Int)) (by omega)
    have gl := of_gd (k := k) (c := c) hl (by omega)
    have hol := of_cons (k := k) (c := c) ha (by rw [tot_cons]; omega)
    obtain ⟨i1, i2, i3⟩ := ih hl (by omega)
    rw [Fa.putL]
    by_cases h1 : Fa.cmpF e.f.ft f.ft < 0
    · rw [if_pos h1, List.map_cons]
      have a2 : AOk (toE e :: (Fa.putL l f n).map toE) := fun x hx => (List.mem_cons.1 hx).elim (fun h => h ▸ he) (i2 x)
      refine ⟨?_, a2, by rw [tot_cons, i3, List.map_cons, tot_cons]; omega⟩
      rw [of_cons a2 (by rw [tot_cons, i3]; omega), i1, List.map_cons, hol]
      exact mrg_swap ge gf gl t0 (by omega)
    · rw [if_neg h1]
      by_cases h2 : Fa.cmpF e.f.ft f.ft = 0
      · rw [if_pos h2]
        have hft : e.f.ft = f.ft := (Fa.cmpF_ord.eq _ _).1 h2
        have hmod : (e.n + n) % Fa.two64 = e.n + n := Nat.mod_eq_of_lt (by unfold Fa.two64; omega)
        rw [hmod, List.map_cons]
        have a2 : AOk (toE ⟨f, e.n + n⟩ :: l.map toE) := fun x hx => (List.mem_cons.1 hx).elim (fun h => h ▸ hf) (hl x)
        have en2 : ((toE ⟨f, e.n + n⟩).n : Int) = e.n + n := by show ((e.n + n : Nat) : Int) = _; omega
        refine ⟨?_, a2, by rw [tot_cons, List.map_cons, tot_cons, en2]; omega⟩
        rw [of_cons a2 (by rw [tot_cons, en2]; omega), en2, List.map_cons, hol]
        show mrgP k (hasZ k c (toF f) (e.n + n)) _ = _
        rw [show ((e.n : Int) + n) = n + e.n from Int.add_comm _ _, has_add hf (by omega) (by omega) (by omega), mrg_assoc gf (Gd.has (k := k) (c := c) hf (n := (e.n : Int)) (by omega)) gl (by omega)]
        rw [show hasZ k c (toE e).f ((toE e).n : Int) = hasZ k c (toF f) e.n from has_ft hft _]
      · rw [if_neg h2, List.map_cons]
        have a2 : AOk (toE ⟨f, n⟩ :: (e :: l).map toE) := fun x hx => (List.mem_cons.1 hx).elim (fun h => h ▸ hf) (ha x)
        have en2 : ((toE ⟨f, n⟩).n : Int) = n := rfl
        refine ⟨?_, a2, by rw [tot_cons, List.map_cons, tot_cons, en2]; omega⟩
        exact of_cons a2 (by rw [tot_cons, List.map_cons, tot_cons, en2]; omega)
theorem fold_of {k c : Int} (l b : List Fa.En) (hb : AOk (b.map toE)) (ha : AOk (l.map toE)) (ht : tot (b.map toE) + tot (l.map toE) < 18446744073709551616) :
    ofP k c ((l.foldl (fun b e => Fa.putL b e.f e.n) b).map toE) = mrgP k (ofP k c (l.map toE)) (ofP k c (b.map toE)) ∧ AOk ((l.foldl (fun b e => Fa.putL b e.f e.n) b).map toE) ∧ tot ((l.foldl (fun b e => Fa.putL b e.f e.n) b).map toE) = tot (b.map toE) + tot (l.map toE) := by
  induction l generalizing b with
  | nil =>
    have z0 : tot (([] : List Fa.En).map toE) = 0 := rfl
    rw [z0] at ht
    refine ⟨(mrg_l (of_gd hb (by omega))).symm, hb, ?_⟩
    rw [z0]
    show tot (b.map toE) = _
    omega
  | cons e l ih =>
    obtain ⟨he, hl⟩ := ha.cons
    rw [List.map_cons, tot_cons] at ht
    have t0 := tot_nonneg (l.map toE)
    have t1 := tot_nonneg (b.map toE)
    have en : ((toE e).n : Int) = e.n := rfl
    obtain ⟨p1, p2, p3⟩ := put_of (k := k) (c := c) b e.f e.n hb he (by omega)
    obtain ⟨i1, i2, i3⟩ := ih (Fa.putL b e.f e.n) p2 hl (by omega)
    rw [List.foldl_cons]
    refine ⟨?_, i2, by rw [i3, p3, List.map_cons, tot_cons]; omega⟩
    have ge := Gd.has (k := k) (c := c) he (n := ((toE e).n : Int)) (by omega)
    have gl := of_gd (k := k) (c := c) hl (by omega)
    have gb := of_gd (k := k) (c := c) hb (by omega)
    rw [i1, p1, List.map_cons, of_cons ha (by rw [tot_cons]; omega)]
    show mrgP k _ (mrgP k (hasZ k c (toE e).f ((toE e).n : Int)) _) = _
    rw [mrg_assoc ge gl gb (by omega)]
    exact mrg_swap gl ge gb t1 (by omega)
theorem filter_of {k c : Int} (l : List Fa.En) (ha : AOk (l.map toE)) (ht : tot (l.map toE) < 18446744073709551616) :
    ofP k c ((l.filter fun e => decide (e.n ≠ 0)).map toE) = ofP k c (l.map toE) ∧ AOk ((l.filter fun e => decide (e.n ≠ 0)).map toE) ∧ tot ((l.filter fun e => decide (e.n ≠ 0)).map toE) = tot (l.map toE) := by
  induction l with
  | nil => exact ⟨rfl, ha, rfl⟩
  | cons e l ih =>
    obtain ⟨he, hl⟩ := ha.cons
    rw [List.map_cons, tot_cons] at ht
    have t0 := tot_nonneg (l.map toE)
    have en : ((toE e).n : Int) = e.n := rfl
    obtain ⟨i1, i2, i3⟩ := ih hl (by omega)
    rw [List.filter_cons]
    by_cases h : e.n = 0
    · rw [if_neg (by simp [h])]
      refine ⟨?_, i2, by rw [i3, List.map_cons, tot_cons]; omega⟩
      rw [i1, List.map_cons, of_cons ha (by rw [tot_cons]; omega)]
      have : hasZ k c (toE e).f ((toE e).n : Int) = U0 := by unfold hasZ; rw [if_pos (by omega)]
      rw [this, mrg_l (of_gd hl (by omega))]
    · rw [if_pos (by simp [h]), List.map_cons]
      have a2 : AOk (toE e :: (l.filter fun e => decide (e.n ≠ 0)).map toE) := fun x hx => (List.mem_cons.1 hx).elim (fun h => h ▸ he) (i2 x)
      refine ⟨?_, a2, by rw [tot_cons, i3, List.map_cons, tot_cons]⟩
      rw [of_cons a2 (by rw [tot_cons, i3]; omega), i1, List.map_cons, of_cons ha (by rw [tot_cons]; omega)]
theorem own_of {k c : Int} (l : List En) (ha : AOk l) (ht : tot l < 18446744073709551616) :
    ofP k c ((Fa.ownL (l.map frE)).map toE) = ofP k c l ∧ AOk ((Fa.ownL (l.map frE)).map toE) ∧ tot ((Fa.ownL (l.map frE)).map toE) = tot l := by
  have h := to_fr l
  obtain ⟨i1, i2, i3⟩ := fold_of (k := k) (c := c) (l.map frE) [] (fun _ h => by cases h) (by rw [h]; exact ha) (by rw [h]; show 0 + tot l < _; omega)
  rw [h] at i1 i3
  have z : tot (([] : List Fa.En).map toE) = 0 := rfl
  rw [z, Int.zero_add] at i3
  obtain ⟨j1, j2, j3⟩ := filter_of (k := k) (c := c) (Fa.putAll (l.map frE)) i2 (by unfold Fa.putAll; rw [i3]; exact ht)
  refine ⟨?_, j2, by unfold Fa.ownL; rw [j3]; exact i3⟩
  unfold Fa.ownL
  rw [j1]
  unfold Fa.putAll
  rw [i1]
  exact mrg_r (of_gd ha ht)
end Go.Proofs.Ytkoihniggoelnaa
