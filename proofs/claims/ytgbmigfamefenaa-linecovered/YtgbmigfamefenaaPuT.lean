/- What is covered may go. No walk stands here. -/
import Derived.Test.YtgbmigfamefenaaPuW
import Derived.Test.YtgbmigfamefenaaVis
namespace Go.Proofs.Ytgbmigfamefenaa
open Go.Shelf Go.RowKit Go.Maps Go.Sort
set_option linter.unusedVariables false

theorem covF_sound {k : K3} : ∀ (l : List S3) (bare : Int), covF k bare l = true → ∀ x, bare ≤ x → x < k.2.1 → ∃ u ∈ l, x < u.2.2 ∧ Ahd u.1 k ∧ (u.2.1 ≤ x ∨ ∃ v ∈ l, v.2.1 ≤ x ∧ x < v.2.2 ∧ Ahd v.1 k)
  | [], bare, h, x, h1, h2 => by
    unfold covF at h
    rw [decide_eq_true_eq] at h
    omega
  | one :: l, bare, h, x, h1, h2 => by
    unfold covF at h
    split at h
    · omega
    · split at h
      · cases h
      · split at h
        · rename_i q1 q2 q3
          rw [ga_iff, decide_eq_true_eq] at q3
          by_cases hx : x < one.2.2
          · exact ⟨one, List.mem_cons_self .., hx, q3, .inl (by omega)⟩
          · obtain ⟨u, hu, r1, r2, r3⟩ := covF_sound l one.2.2 h x (by omega) h2
            refine ⟨u, List.mem_cons_of_mem _ hu, r1, r2, ?_⟩
            rcases r3 with r | ⟨v, hv, r⟩
            · exact .inl r
            · exact .inr ⟨v, List.mem_cons_of_mem _ hv, r⟩
        · cases h
/-- At each time that a covered set holds one counts that goes ahead of it. -/
theorem cov_sound {k : K3} {out : List S3} (h : cov k out = true) {x : Int} (hx : Hl k x) : ∃ u ∈ out, u.2.1 ≤ x ∧ x < u.2.2 ∧ Ahd u.1 k := by
  unfold cov at h
  obtain ⟨u, hu, r1, r2, r3⟩ := covF_sound _ _ h x hx.1 hx.2
  rcases r3 with r | ⟨v, hv, q1, q2, q3⟩
  · exact ⟨u, List.mem_of_mem_drop hu, r, r1, r2⟩
  · exact ⟨v, List.mem_of_mem_drop hv, q1, q2, q3⟩
theorem sgs_nodup {s : List Es} (h : Wf s) : (sgs s).Nodup := by
  unfold sgs List.Nodup
  rw [List.pairwise_flatMap]
  constructor
  · intro e he
    unfold sgE
    rw [List.pairwise_map]
    exact (h.up e he).imp fun q r => by simp only [Prod.mk.injEq] at r; omega
  · have := h.nd
    unfold List.Nodup at this
    rw [List.pairwise_map] at this
    refine this.imp fun {a b} q x hx y hy r => q ?_
    rw [← (mem_sgE.1 hx).1, ← (mem_sgE.1 hy).1, r]
theorem segL_nodup {s : List Es} (h : Wf s) {ks : List K3} (hk : ks.Nodup) : (segL s ks).Nodup := by
  unfold segL List.Nodup
  rw [List.pairwise_flatMap]
  constructor
  · intro k hk
    by_cases hin : ∃ e ∈ s, e.1 = k
    · obtain ⟨e, he, rfl⟩ := hin
      rw [sgsOf_in h.nd he]
      unfold sgE
      rw [List.pairwise_map]
      exact (h.up e he).imp fun q r => by simp only [Prod.mk.injEq] at r; omega
    · rw [sgsOf_out fun e he q => hin ⟨e, he, q⟩]
      exact .nil
  · refine hk.imp fun {a b} q x hx y hy r => q ?_
    rw [← ((mem_sgsOf h.nd).1 hx).2, ← ((mem_sgsOf h.nd).1 hy).2, r]
theorem mem_segL {s : List Es} (h : Wf s) {ks : List K3} {g : Sg} : g ∈ segL s ks ↔ g ∈ sgs s ∧ g.1 ∈ ks := by
  unfold segL
  rw [List.mem_flatMap]
  constructor
  · rintro ⟨k, hk, hg⟩
    obtain ⟨h1, h2⟩ := (mem_sgsOf h.nd).1 hg
    exact ⟨h1, by rw [h2]; exact hk⟩
  · rintro ⟨h1, h2⟩
    exact ⟨g.1, h2, (mem_sgsOf h.nd).2 ⟨h1, rfl⟩⟩
theorem keysF_nodup {s : List Es} (h : Wf s) (p : K3 → Bool) : (keysF p s).Nodup := by
  unfold keysF
  exact (srtK_perm _).nodup_iff.2 (h.nd.sublist (List.filter_sublist.map _))
/-- While covered segments are taken out. -/
structure CvS (s0 : List Es) (c : List Sg) (i : Nat) (s : List Es) : Prop where
  wf : Wf s
  pm : (sgs s ++ c.take i).Perm (sgs s0)
theorem CvS.step {s0 s : List Es} {c : List Sg} {i : Nat} (h : CvS s0 c i s) (h0 : Wf s0) (hc : c.Nodup) (hsub : ∀ g ∈ c, g ∈ sgs s0) (hi : i < c.length) (hm : may c[i] = true) : (remF s c[i]).1 = 0 ∧ CvS s0 c (i + 1) (remF s c[i]).2 := by
  have hin : c[i] ∈ sgs s := by
    have := h.pm.mem_iff.2 (hsub _ (List.getElem_mem hi))
    rcases List.mem_append.1 this with q | q
    · exact q
    · exfalso
      obtain ⟨j, hj, e⟩ := List.getElem_of_mem q
      rw [List.length_take] at hj
      rw [List.getElem_take] at e
      have := (List.pairwise_iff_getElem.1 hc) j i (by omega) hi (by omega)
      exact this e
  obtain ⟨r1, r2, r3⟩ := rem_wf h.wf hm hin
  refine ⟨r1, r2, ?_⟩
  rw [List.take_succ_eq_append_getElem hi]
  refine List.Perm.trans ?_ h.pm
  refine List.Perm.trans ?_ (r3.append_right _)
  rw [← List.append_assoc]
  exact (List.perm_append_comm (l₁ := sgs (remF s c[i]).2 ++ c.take i) (l₂ := [c[i]]))
/-- The covered keys of a state, by the stretches that count. -/
def ckL (s0 : List Es) (out0 : List S3) : List Sg := segL s0 (keysF (fun k => cov k out0) s0)
theorem mem_ckL {s0 : List Es} (h0 : Wf s0) {out0 : List S3} {g : Sg} : g ∈ ckL s0 out0 ↔ g ∈ sgs s0 ∧ cov g.1 out0 = true := by
  unfold ckL
  rw [mem_segL h0, mem_keysF]
  constructor
  · rintro ⟨h1, e, he, q, r⟩; exact ⟨h1, by rw [← r]; exact q⟩
  · rintro ⟨h1, h2⟩
    obtain ⟨e, he, q, _⟩ := mem_sgs.1 h1
    exact ⟨h1, e, he, by rw [← q]; exact h2, q.symm⟩
theorem CvS.but {s0 s : List Es} {out0 : List S3} {i : Nat} (h : CvS s0 (ckL s0 out0) i s) (h0 : Wf s0) (g : Sg) (hg : ¬ cov g.1 out0 = true) : g ∈ sgs s0 ↔ g ∈ sgs s := by
  rw [← h.pm.mem_iff, List.mem_append]
  constructor
  · rintro (q | q)
    · exact q
    · exact absurd ((mem_ckL h0).1 (List.mem_of_mem_take q)).2 hg
  · intro q; exact .inl q
/-- What counts at each time stays. -/
theorem CvS.bst {s0 s : List Es} {out0 : List S3} {i : Nat} (h : CvS s0 (ckL s0 out0) i s) (h0 : Wf s0) {a b : Int} (ho : Say (keysF (pC a b s0) s0) out0 1099511627776) (hab : ∀ k : K3, k ∈ CK s0 ∨ k ∈ CK s → max k.1 a < min k.2.1 b) : (∀ x k, Bst (keysF (pC a b s0) s0) x k → ¬ cov k out0 = true) ∧ ∀ x k, Bst (keysF (pC a b s0) s0) x k ↔ Bst (keysF (pC a b s) s) x k := by
  have hP : ∀ x k, Bst (keysF (pC a b s0) s0) x k → ¬ cov k out0 = true := by
    intro x k hb hc
    obtain ⟨u, hu, q1, q2, q3⟩ := cov_sound hc hb.hl
    have := (ho.is u hu x q1 q2).unique hb
    rw [this] at q3
    exact Ahd.irrefl _ q3
  have hm : ∀ k, ¬ cov k out0 = true → (k ∈ keysF (pC a b s0) s0 ↔ k ∈ keysF (pC a b s) s) := by
    intro k hk
    rw [mem_LK, mem_LK, CK_P (P := fun k => ¬ cov k out0 = true) h0 h.wf (fun g hg => h.but h0 g hg) hk]
  refine ⟨hP, fun x k => ⟨fun hb => ?_, fun hb => ?_⟩⟩
  · have hk := hP x k hb
    refine ⟨(hm k hk).1 hb.mem, hb.hl, fun o hoo hx => ?_⟩
    by_cases hc : cov o out0 = true
    · obtain ⟨u, hu, q1, q2, q3⟩ := cov_sound hc hx
      rw [(ho.is u hu x q1 q2).unique hb] at q3
      exact .inr q3
    · exact hb.top o ((hm o hc).2 hoo) hx
  · by_cases hk : cov k out0 = true
    · exfalso
      obtain ⟨u, hu, q1, q2, q3⟩ := cov_sound hk hb.hl
      have hbu := ho.is u hu x q1 q2
      rcases hb.top u.1 ((hm _ (hP x _ hbu)).1 hbu.mem) hbu.hl with r | r
      · rw [r] at q3; exact Ahd.irrefl _ q3
      · exact q3.asymm r
    · refine ⟨(hm k hk).2 hb.mem, hb.hl, fun o hoo hx => ?_⟩
      by_cases hc : cov o out0 = true
      · obtain ⟨u, hu, q1, q2, q3⟩ := cov_sound hc hx
        have hbu := ho.is u hu x q1 q2
        rcases hb.top u.1 ((hm _ (hP x _ hbu)).1 hbu.mem) hbu.hl with r | r
        · rw [r] at q3; exact .inr q3
        · exact .inr (r.trans q3)
      · exact hb.top o ((hm o hc).1 hoo) hx
theorem ck_in {s : List Es} (h : Wf s) {k : K3} (hk : k ∈ CK s) : max k.1 0 < min k.2.1 1099511627776 := by
  obtain ⟨e, he, rfl, _⟩ := mem_CK.1 hk
  have h1 := (h.ok e he).lo
  have h2 := (h.ok e he).ne
  have h3 := (h.ok e he).hi
  omega
/-- Rows of keys that rise and have the same keys are one. -/
theorem stn_eq {l m : List K3} (hl : l.Pairwise Stn) (hm : m.Pairwise Stn) (h : ∀ x, x ∈ l ↔ x ∈ m) : l = m := by
  have irr : ∀ a : K3, ¬ Stn a a := fun a q => by unfold Stn at q; omega
  have nl : l.Nodup := hl.imp fun q r => by rw [r] at q; exact irr _ q
  have nm : m.Nodup := hm.imp fun q r => by rw [r] at q; exact irr _ q
  exact List.Perm.eq_of_pairwise (le := Stn) (fun a b _ _ q1 q2 => by exfalso; exact irr _ (q1.trans q2)) hl hm ((List.perm_ext_iff_of_nodup nl nm).2 h)
theorem segL_congr {s t : List Es} {ks : List K3} (h : ∀ k ∈ ks, sgsOf s k = sgsOf t k) : segL s ks = segL t ks := by
  unfold segL
  induction ks with
  | nil => rfl
  | cons k ks ih => rw [List.flatMap_cons, List.flatMap_cons, h k (List.mem_cons_self ..), ih fun j hj => h j (List.mem_cons_of_mem _ hj)]
/-- All that is told stays. -/
theorem CvS.told {s0 s : List Es} {out0 out : List S3} {i : Nat} (h : CvS s0 (ckL s0 out0) i s) (h0 : Wf s0) (ho : Say (keysF (pC 0 1099511627776 s0) s0) out0 1099511627776) (hs : Say (keysF (pC 0 1099511627776 s) s) out 1099511627776) : out = out0 ∧ lkF s (cutS 0 1099511627776 out) = lkF s0 (cutS 0 1099511627776 out0) ∧ ∀ k, (∃ u ∈ out0, u.1 = k) → sgsOf s k = sgsOf s0 k := by
  obtain ⟨hP, hB⟩ := h.bst h0 ho (fun k hk => hk.elim (ck_in h0) (ck_in h.wf))
  have hk : ∀ x k, Bst (keysF (pC 0 1099511627776 s0) s0) x k → sgsOf s0 k = sgsOf s k := fun x k hb => sgsOf_P (P := fun k => ¬ cov k out0 = true) h0 h.wf (fun g hg => h.but h0 g hg) (hP x k hb)
  obtain ⟨e1, e2⟩ := lk_same ho hs hB hk
  refine ⟨e1.symm, e2.symm, ?_⟩
  rintro k ⟨u, hu, rfl⟩
  exact (hk u.2.1 u.1 (ho.is u hu u.2.1 (Int.le_refl _) (ho.ne u hu))).symm
/-- In the end nothing is covered. -/
theorem CvS.none {s0 s : List Es} {out0 : List S3} (h : CvS s0 (ckL s0 out0) (ckL s0 out0).length s) (h0 : Wf s0) : keysF (fun k => cov k out0) s = [] := by
  refine List.eq_nil_iff_forall_not_mem.2 fun k hk => ?_
  obtain ⟨e, he, q, rfl⟩ := (mem_keysF _ _ _).1 hk
  obtain ⟨p, ps, hps⟩ : ∃ p ps, e.2.2 = p :: ps := by
    cases hq : e.2.2 with
    | nil => exact absurd hq (h.wf.ne e he)
    | cons a l => exact ⟨a, l, rfl⟩
  have hg : (e.1, p, e.2.1) ∈ sgs s := mem_sgs.2 ⟨e, he, rfl, by rw [hps]; exact List.mem_cons_self .., rfl⟩
  have hpm := h.pm
  rw [List.take_length] at hpm
  have hnd := hpm.nodup_iff.2 (sgs_nodup h0)
  have hg0 : (e.1, p, e.2.1) ∈ sgs s0 := hpm.mem_iff.1 (List.mem_append.2 (.inl hg))
  have hgc : (e.1, p, e.2.1) ∈ ckL s0 out0 := (mem_ckL h0).2 ⟨hg0, q⟩
  rw [List.nodup_append] at hnd
  exact hnd.2.2 _ hg _ hgc rfl
end Go.Proofs.Ytgbmigfamefenaa

namespace Go.Proofs.Ytgbmigfamefenaa
open Go.Shelf Go.RowKit Go.Maps Go.Sort
set_option linter.unusedVariables false

/-- The order in which LineTurned puts segments in: turned round, from the q-th on. -/
def trn (l : List Sg) (q : Nat) : List Sg := (l.take q).reverse ++ (l.drop q).reverse
theorem trn_perm (l : List Sg) (q : Nat) : (trn l q).Perm l := by
  unfold trn
  refine ((List.reverse_perm _).append (List.reverse_perm _)).trans ?_
  rw [List.take_append_drop]
theorem trn_len (l : List Sg) (q : Nat) : (trn l q).length = l.length := (trn_perm l q).length_eq
theorem trn_get {l : List Sg} {q i : Nat} (hq : q < l.length) (hi : i < l.length) : (trn l q)[i]'(by rw [trn_len]; exact hi) = l[(l.length - 1 - i + q) % l.length]'(Nat.mod_lt _ (by omega)) := by
  unfold trn
  by_cases h : i < q
  · have h1 : i < (l.take q).reverse.length := by rw [List.length_reverse, List.length_take]; omega
    rw [List.getElem_append_left h1, List.getElem_reverse, List.getElem_take]
    congr 1
    rw [List.length_take, Nat.min_eq_left (by omega), Nat.mod_eq_sub_mod (by omega), Nat.mod_eq_of_lt (by omega)]
    omega
  · have h1 : (l.take q).reverse.length ≤ i := by rw [List.length_reverse, List.length_take]; omega
    rw [List.getElem_append_right h1, List.getElem_reverse, List.getElem_drop]
    congr 1
    rw [List.length_reverse, List.length_take, List.length_drop, Nat.min_eq_left (by omega), Nat.mod_eq_of_lt (by omega)]
    omega
/-- Segments of the law's: the core hangs on the set. -/
theorem few_core {g h : Sg} (hg : Few g) (hh : Few h) (hk : g.1 = h.1) : g.2.2 = h.2.2 := by rw [hg.co, hh.co, hk]
theorem few_eq {g h : Sg} (hg : Few g) (hh : Few h) (hk : g.1 = h.1) (hp : g.2.1 = h.2.1) : g = h := by
  have hc := few_core hg hh hk
  obtain ⟨a, b, c⟩ := g
  obtain ⟨a', b', c'⟩ := h
  simp only at hk hp hc
  rw [hk, hp, hc]
/-- A state of few segments. -/
structure TrS (l : List Sg) (s : List Es) : Prop where
  wf : Wf s
  pm : (sgs s).Perm l
  few : ∀ g ∈ l, Few g
theorem TrS.nodup {l : List Sg} {s : List Es} (h : TrS l s) : l.Nodup := h.pm.nodup_iff.1 (sgs_nodup h.wf)
/-- One that isn't there is taken. -/
theorem TrS.add {l : List Sg} {s : List Es} (h : TrS l s) {g : Sg} (hg : Few g) (hn : ∀ x ∈ l, ¬ (x.1 = g.1 ∧ x.2.1 = g.2.1)) : (addF s g).1 = 0 ∧ TrS (l ++ [g]) (addF s g).2 := by
  have h0 : (addF s g).1 = 0 := by
    refine add_ok h.wf hg.may fun x hx hk => ?_
    have hm := h.pm.mem_iff.1 hx
    exact ⟨fun e => hn x hm ⟨hk, e⟩, few_core (h.few x hm) hg hk⟩
  obtain ⟨w1, w2, _⟩ := add_wf h.wf g hg.b3
  refine ⟨h0, w1, ((w2 h0).1.trans (List.Perm.cons _ h.pm)).trans (List.perm_append_comm (l₁ := [g]) (l₂ := l)), fun x hx => ?_⟩
  rcases List.mem_append.1 hx with q | q
  · exact h.few x q
  · rw [List.mem_singleton.1 q]; exact hg
/-- Add of any: taken, or nothing changes. -/
theorem TrS.any {l : List Sg} {s : List Es} (h : TrS l s) {g : Sg} (hg : Few g) : ((addF s g).1 = 0 → TrS (l ++ [g]) (addF s g).2) ∧ ((addF s g).1 ≠ 0 → (addF s g).2 = s) := by
  obtain ⟨w1, w2, w3⟩ := add_wf h.wf g hg.b3
  refine ⟨fun h0 => ⟨w1, ((w2 h0).1.trans (List.Perm.cons _ h.pm)).trans (List.perm_append_comm (l₁ := [g]) (l₂ := l)), fun x hx => ?_⟩, w3⟩
  rcases List.mem_append.1 hx with q | q
  · exact h.few x q
  · rw [List.mem_singleton.1 q]; exact hg
/-- The next of those that are put in. -/
theorem TrS.turn {l ex : List Sg} {s : List Es} {q i : Nat} (h : TrS (ex ++ (trn l q).take i) s) (hl : l.Nodup) (hfl : ∀ g ∈ l, Few g) (hex : ∀ g ∈ ex, ∀ x ∈ l, ¬ (x.1 = g.1 ∧ x.2.1 = g.2.1)) (hi : i < (trn l q).length) : (addF s (trn l q)[i]).1 = 0 ∧ TrS (ex ++ (trn l q).take (i + 1)) (addF s (trn l q)[i]).2 := by
  have hin : (trn l q)[i] ∈ l := (trn_perm l q).mem_iff.1 (List.getElem_mem hi)
  have hnd : (trn l q).Nodup := (trn_perm l q).nodup_iff.2 hl
  have hfew := hfl _ hin
  have := h.add hfew fun x hx hh => by
    rcases List.mem_append.1 hx with r | r
    · exact hex x r _ hin ⟨hh.1.symm, hh.2.symm⟩
    · obtain ⟨j, hj, e⟩ := List.getElem_of_mem r
      rw [List.length_take] at hj
      rw [List.getElem_take] at e
      have hx2 : x ∈ l := (trn_perm l q).mem_iff.1 (e ▸ List.getElem_mem _)
      have hxe := few_eq (hfl x hx2) hfew hh.1 hh.2
      exact (List.pairwise_iff_getElem.1 hnd) j i (by omega) hi (by omega) (e.trans hxe)
  rw [List.append_assoc] at this
  rw [List.take_succ_eq_append_getElem hi]
  exact this
/-- One of the others is taken out. -/
theorem TrS.rem {l ex : List Sg} {s : List Es} {i : Nat} (h : TrS (ex.drop i ++ l) s) (hi : i < ex.length) : (remF s ex[i]).1 = 0 ∧ TrS (ex.drop (i + 1) ++ l) (remF s ex[i]).2 := by
  have hd : ex.drop i = ex[i] :: ex.drop (i + 1) := List.drop_eq_getElem_cons hi
  have hm : ex[i] ∈ ex.drop i ++ l := by rw [hd]; exact List.mem_append.2 (.inl (List.mem_cons_self ..))
  obtain ⟨r1, r2, r3⟩ := rem_wf h.wf (h.few _ hm).may (h.pm.mem_iff.2 hm)
  refine ⟨r1, r2, ?_, fun g hg => h.few g ?_⟩
  · have := r3.trans h.pm
    rw [hd, List.cons_append] at this
    exact List.Perm.cons_inv this
  · rw [hd, List.cons_append]; exact List.mem_cons_of_mem _ hg
/-- All is told the same. -/
theorem TrS.told {l : List Sg} {s t : List Es} (h : TrS l s) (k : TrS l t) {out out' : List S3} (ho : Say (keysF (pC 0 1099511627776 s) s) out 1099511627776) (ho' : Say (keysF (pC 0 1099511627776 t) t) out' 1099511627776) : out = out' ∧ lkF s (cutS 0 1099511627776 out) = lkF t (cutS 0 1099511627776 out') ∧ (∀ ks, segL s ks = segL t ks) ∧ ∀ p, keysF p s = keysF p t := by
  have hm : ∀ g, g ∈ sgs s ↔ g ∈ sgs t := fun g => by rw [h.pm.mem_iff, k.pm.mem_iff]
  obtain ⟨e1, e2⟩ := lk_same_P (P := fun _ => True) h.wf k.wf (fun g _ => hm g) (fun _ _ => trivial) (fun _ _ => trivial) ho ho'
  have he := wf_mem h.wf k.wf hm
  exact ⟨e1, e2, fun ks => segL_same h.wf k.wf he ks, fun p => keysF_same h.wf k.wf he p⟩
end Go.Proofs.Ytgbmigfamefenaa
