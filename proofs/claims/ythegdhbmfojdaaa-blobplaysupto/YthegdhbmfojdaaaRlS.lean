/- The disk and the reference's: what both say, side by side. No walk stands here. -/
import Derived.Test.YthegdhbmfojdaaaRfb
namespace Go.Proofs.Ythegdhbmfojdaaa
open Go.RowKit Go.Maps Go.Sort
set_option linter.unusedVariables false

structure Rel (s : St) (t : RSt) : Prop where
  sp : SP t.fs s.fs
  off : t.off = s.off
  n : t.n = s.ops
  cut : (s.set = false ∧ t.at_ = -1) ∨ (s.set = true ∧ t.at_ = s.op ∧ t.part = s.part)
theorem SP.map {l m : List Fl} (h : SP l m) (g : Fl → Fl) (hg : ∀ f, (g f).nm = f.nm) : SP (l.map g) (m.map g) := ⟨srt_map h.srt g hg, h.pm.map _⟩
theorem SP.has {l m : List Fl} (h : SP l m) (t : Str) : hasF l t = hasF m t := hasF_permR h.pm t
theorem Rel.cutR {s : St} {t : RSt} (h : Rel s t) (part : Int) : Rel (s.cut part) (rcut t part) := by
  unfold St.cut rcut
  rw [h.off]
  split
  · exact h
  · exact ⟨h.sp.map _ fun _ => rfl, rfl, h.n, h.cut⟩
theorem Rel.count {s : St} {t : RSt} (h : Rel s t) : s.count.1 = (if (rcnt t).1 then 122 else 0) ∧ Rel s.count.2 (rcnt t).2 := by
  have h1 : Rel s.tick { t with n := t.n + 1 } := ⟨h.sp, h.off, by show t.n + 1 = s.ops + 1; rw [h.n], h.cut⟩
  rcases h.cut with ⟨c1, c2⟩ | ⟨c1, c2, c3⟩
  · have e1 : s.count = (0, s.tick) := by unfold St.count; rw [if_neg (by rw [c1]; simp)]
    have e2 : rcnt t = (false, { t with n := t.n + 1 }) := by unfold rcnt; rw [if_neg (by rw [c2]; omega)]
    rw [e1, e2]
    exact ⟨rfl, h1⟩
  · by_cases he : (s.ops : Int) = s.op
    · have e1 : s.count = (122, s.tick.cut s.part) := by unfold St.count; rw [if_pos ⟨c1, he⟩]
      have e2 : rcnt t = (true, rcut { t with n := t.n + 1 } t.part) := by unfold rcnt; rw [if_pos (by rw [h.n, c2]; exact he)]
      rw [e1, e2, c3]
      refine ⟨rfl, ?_⟩
      have := h1.cutR s.part
      rw [c3] at this
      exact this
    · have e1 : s.count = (0, s.tick) := by unfold St.count; rw [if_neg (fun q => he q.2)]
      have e2 : rcnt t = (false, { t with n := t.n + 1 }) := by unfold rcnt; rw [if_neg (by rw [h.n, c2]; exact he)]
      rw [e1, e2]
      exact ⟨rfl, h1⟩
theorem Rel.fs {s : St} {t : RSt} (h : Rel s t) {l m : List Fl} (hl : SP l m) : Rel { s with fs := m } { t with fs := l } := ⟨hl, h.off, h.n, h.cut⟩
theorem Rel.rf1 {s : St} {t : RSt} (h : Rel s t) (a : Str) : rfF s a [] = rrc t a a := by
  unfold rfF rfC rrc
  rw [h.off, h.sp.has]
  cases s.off <;> cases ha : isNm a <;> cases hasF s.fs a <;> simp_all
theorem Rel.rf2 {s : St} {t : RSt} (h : Rel s t) (a b : Str) : rfF s a [b] = rrc t a b := by
  unfold rfF rfC rrc
  rw [h.off, h.sp.has]
  cases s.off <;> cases ha : isNm a <;> cases hb : isNm b <;> cases hasF s.fs a <;> simp_all
theorem Rel.begins {s : St} {t : RSt} (h : Rel s t) {a : Str} {ns : List Str} {c : Nat} (hc : rfF s a ns = c) (h0 : c = 0) : s.begins a ns = s.count := by
  unfold St.begins
  rw [hc, h0]
  rfl
theorem Rel.append {s : St} {t : RSt} (h : Rel s t) (nm b : Str) : (s.append nm b).1 = (rapp t nm b).1 ∧ Rel (s.append nm b).2 (rapp t nm b).2 := by
  unfold St.append rapp rfC
  rw [h.off, h.sp.has, h.sp.pm.length_eq]
  cases ho : s.off with
  | true => exact ⟨rfl, h⟩
  | false =>
    cases hn : isNm nm with
    | false => simp [hn]; exact h
    | true =>
      simp only [List.all_cons, List.all_nil, hn, Bool.and_true, if_true, Bool.false_eq_true, if_false, ne_eq, not_true_eq_false, Bool.true_eq_false]
      by_cases hx : hasF s.fs nm = false ∧ 1000 ≤ s.fs.length
      · rw [if_pos hx, if_pos hx]
        exact ⟨rfl, h⟩
      · rw [if_neg hx, if_neg hx]
        have e : SP (srtF (addF (opnF t.fs nm) nm b)) (addF (opnF s.fs nm) nm b) := by
          have hp : (addF (opnF t.fs nm) nm b).Perm (addF (opnF s.fs nm) nm b) := by
            refine List.Perm.map _ ?_
            unfold opnF
            rw [h.sp.has]
            split
            · exact h.sp.pm
            · exact h.sp.pm.append_right _
          have hnd : NdR (addF (opnF t.fs nm) nm b) := by
            have := opn_nd h.sp.srt.nd nm
            unfold NdR at this ⊢
            unfold addF
            rw [List.pairwise_map]
            refine List.Pairwise.imp ?_ this
            intro x y q
            have key : ∀ x : Fl, (if x.nm = nm then (⟨x.nm, x.bs ++ b, x.sy⟩ : Fl) else x).nm = x.nm := fun x => by split <;> rfl
            rw [key, key]
            exact q
          exact ⟨(srtF_sp hnd).srt, (srtF_sp hnd).pm.trans hp⟩
        have k := (h.fs e).count
        have hot : t.off = false := by rw [h.off, ho]
        rw [ho, hot] at k
        exact ⟨k.1, k.2⟩
theorem rcnt_fs {t : RSt} (h : (rcnt t).1 = false) : (rcnt t).2.fs = t.fs := by rw [rcnt_no h]
theorem count_fsR {s : St} {t : RSt} (h : Rel s t) (hc : (rcnt t).1 = false) : s.count.2.fs = s.fs := by
  unfold St.count
  split
  · rename_i q
    have := h.count.1
    rw [hc] at this
    unfold St.count at this
    rw [if_pos q] at this
    cases this
  · rfl
theorem Rel.sync {s : St} {t : RSt} (h : Rel s t) (a : Str) : (s.sync a).1 = (rsyn t a).1 ∧ Rel (s.sync a).2 (rsyn t a).2 := by
  have hr := h.rf1 a
  unfold St.sync rsyn
  by_cases h0 : rrc t a a = 0
  · rw [h.begins hr h0, if_neg (not_not_intro h0)]
    obtain ⟨k1, k2⟩ := h.count
    cases hc : (rcnt t).1 with
    | true =>
      rw [hc] at k1
      rw [k1, if_pos (by simp)]
      exact ⟨k1, k2⟩
    | false =>
      rw [hc] at k1
      rw [k1, if_neg (by simp)]
      refine ⟨rfl, k2.fs ?_⟩
      obtain ⟨i, f, e1, e2, e3⟩ := fI_get (fs := (rcnt t).2.fs) (t := a) (by rw [rcnt_fs hc]; exact (rrc_has h0).2.2.2)
      have hl := (List.getElem?_eq_some_iff.1 e2).1
      have hfe := (List.getElem?_eq_some_iff.1 e2).2
      rw [updF_at hl e1, hfe]
      have e := map_atR k2.sp.srt.nd e2 (fun x => ⟨x.nm, x.bs, x.bs.length⟩)
      have e' : (rcnt t).2.fs.set i ⟨f.nm, f.bs, f.bs.length⟩ = synF (rcnt t).2.fs a := by
        rw [← e]
        unfold synF
        rw [e3]
      rw [e']
      refine k2.sp.map _ fun f => ?_
      split <;> rfl
  · rw [if_pos h0]
    have hb : s.begins a [] = (rrc t a a, s) := by
      unfold St.begins
      rw [hr, if_pos h0]
    rw [hb, if_pos h0]
    exact ⟨rfl, h⟩
theorem Rel.remove {s : St} {t : RSt} (h : Rel s t) (a : Str) : (s.remove a).1 = (rrem t a).1 ∧ Rel (s.remove a).2 (rrem t a).2 := by
  have hr := h.rf1 a
  unfold St.remove rrem
  by_cases h0 : rrc t a a = 0
  · rw [h.begins hr h0, if_neg (not_not_intro h0)]
    obtain ⟨k1, k2⟩ := h.count
    cases hc : (rcnt t).1 with
    | true =>
      rw [hc] at k1
      rw [k1, if_pos (by simp)]
      exact ⟨k1, k2⟩
    | false =>
      rw [hc] at k1
      rw [k1, if_neg (by simp)]
      refine ⟨rfl, k2.fs ?_⟩
      obtain ⟨i, f, e1, e2, e3⟩ := fI_get (fs := (rcnt t).2.fs) (t := a) (by rw [rcnt_fs hc]; exact (rrc_has h0).2.2.2)
      rw [e1]
      have e := del_atR k2.sp.srt.nd e2
      rw [e3] at e
      rw [Int.toNat_natCast, ← e]
      exact ⟨List.Pairwise.filter _ k2.sp.srt, k2.sp.pm.filter _⟩
  · rw [if_pos h0]
    have hb : s.begins a [] = (rrc t a a, s) := by
      unfold St.begins
      rw [hr, if_pos h0]
    rw [hb, if_pos h0]
    exact ⟨rfl, h⟩
theorem mov_nd {l : List Fl} (h : NdR l) (a b : Str) : NdR (movF l a b) := by
  unfold movF NdR
  rw [List.pairwise_append]
  refine ⟨List.Pairwise.filter _ (List.Pairwise.filter _ h), ?_, fun x hx y hy => ?_⟩
  · cases hh : hasF l a with
    | true =>
      obtain ⟨i, f, e1, e2, e3⟩ := fI_get hh
      have := got_atR h e2
      rw [e3] at this
      rw [this]
      simp
    | false =>
      have : gotF l a = [] := List.filter_eq_nil_iff.2 fun x hx => by simpa using hasF_noR.1 hh x hx
      rw [this]
      exact .nil
  · obtain ⟨z, hz, rfl⟩ := List.mem_map.1 hy
    have := (List.mem_filter.1 hx).2
    simpa using this
theorem Rel.rename {s : St} {t : RSt} (h : Rel s t) (a b : Str) : (s.rename a b).1 = (rren t a b).1 ∧ Rel (s.rename a b).2 (rren t a b).2 := by
  have hr := h.rf2 a b
  unfold St.rename rren
  by_cases h0 : rrc t a b = 0
  · rw [h.begins hr h0, if_neg (not_not_intro h0)]
    obtain ⟨k1, k2⟩ := h.count
    cases hc : (rcnt t).1 with
    | true =>
      rw [hc] at k1
      rw [k1, if_pos (by simp)]
      exact ⟨k1, k2⟩
    | false =>
      rw [hc] at k1
      rw [k1, if_neg (by simp)]
      refine ⟨rfl, k2.fs ?_⟩
      rw [count_fsR h hc]
      have hn := mov_nd h.sp.srt.nd a b
      refine ⟨(srtF_sp hn).srt, (srtF_sp hn).pm.trans ?_⟩
      unfold movF
      exact ((h.sp.pm.filter _).filter _).append ((h.sp.pm.filter _).map _)
  · rw [if_pos h0]
    have hb : s.begins a [b] = (rrc t a b, s) := by
      unfold St.begins
      rw [hr, if_pos h0]
    rw [hb, if_pos h0]
    exact ⟨rfl, h⟩
theorem SP.byt {l m : List Fl} (h : SP l m) (t : Str) : bytF l t = bytF m t := by
  unfold bytF
  have hp : (gotF l t).Perm (gotF m t) := h.pm.filter _
  cases hh : hasF l t with
  | true =>
    obtain ⟨i, f, e1, e2, e3⟩ := fI_get hh
    have := got_atR h.srt.nd e2
    rw [e3] at this
    rw [this] at hp ⊢
    rw [List.perm_singleton.1 hp.symm]
  | false =>
    have : gotF l t = [] := List.filter_eq_nil_iff.2 fun x hx => by simpa using hasF_noR.1 hh x hx
    rw [this] at hp ⊢
    rw [List.perm_nil.1 hp.symm]
theorem Rel.read {s : St} {t : RSt} (h : Rel s t) (a : Str) : rfF s a [] = rrc t a a ∧ rdC s a = rrd t a := by
  refine ⟨h.rf1 a, ?_⟩
  unfold rdC rrd
  rw [h.rf1 a, h.sp.byt]
theorem Rel.list {s : St} {t : RSt} (h : Rel s t) (p : Str) : lstN s p = rls t p := by
  unfold lstN rls
  rw [h.off]
  split
  · rfl
  · have hp : (preN s.fs p).Perm (preN t.fs p) := (h.sp.pm.symm.filter _).map _
    rw [srt_perm hp]
    unfold srt
    refine List.mergeSort_of_pairwise ?_
    unfold preN
    rw [List.pairwise_map]
    refine List.Pairwise.imp ?_ (List.Pairwise.filter _ h.sp.srt)
    intro x y q
    simp only [decide_eq_true_eq]
    exact Std.le_of_lt q
end Go.Proofs.Ythegdhbmfojdaaa
