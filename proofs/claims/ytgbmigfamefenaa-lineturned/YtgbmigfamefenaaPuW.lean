/- LineOne, said purely; how many pieces there are. No walk stands here. -/
import Derived.Test.YtgbmigfamefenaaCut
namespace Go.Proofs.Ytgbmigfamefenaa
open Go.Shelf Go.RowKit Go.Maps Go.Sort
set_option linter.unusedVariables false

theorem ck_few {s : List Es} {l : List Sg} (hs : Wf s) (hp : (sgs s).Perm l) (hf : ∀ g ∈ l, Few g) {k : K3} (hk : k ∈ CK s) : 0 ≤ k.1 ∧ k.2.1 ≤ 20 := by
  obtain ⟨g, hg, rfl, _⟩ := ck_seg hs hp hk
  have h := hf g hg
  have := h.f0
  have := h.f1
  have := h.t1
  exact ⟨by omega, by omega⟩
theorem cut_few {s : List Es} {l : List Sg} (hs : Wf s) (hp : (sgs s).Perm l) (hf : ∀ g ∈ l, Few g) {o : List S3} {a b : Int} (hc : Cut (CK s) o a b) : ∀ t ∈ o, 0 ≤ t.2.1 ∧ t.2.2 ≤ 20 := by
  intro t ht
  have h1 := hc.ne t ht
  have b1 := hc.is t ht t.2.1 (Int.le_refl _) h1
  have b2 := hc.is t ht (t.2.2 - 1) (by omega) (by omega)
  have k1 := ck_few hs hp hf b1.mem
  have l1 := b1.hl.1
  have l2 := b2.hl.2
  exact ⟨by omega, by omega⟩
theorem lk_len {s : List Es} {l : List Sg} (hs : Wf s) (hp : (sgs s).Perm l) (hf : ∀ g ∈ l, Few g) (hl : l.length ≤ 40) {o : List S3} {a b : Int} (hc : Cut (CK s) o a b) : (lkF s o).length ≤ 1000 := by
  have h1 := chn_len o 0 20 hc.ne hc.ch (cut_few hs hp hf hc)
  have h2 := lkF_lenO (s := s) (m := 40) (fun e he => by have := wf_parts (s := s) e he; have := hp.length_eq; omega) o
  omega
/-- What LineOne asks of a piece. -/
structure OneP (s : List Es) (l : List Sg) (a b : Int) (x : Pc) : Prop where
  there : x.1 ∈ l
  wh : whB l x.1 = true
  ne : x.2.1 < x.2.2
  lo : max a x.1.1.1 ≤ x.2.1
  hi : x.2.2 ≤ min b x.1.1.2.1
  no : ∀ y ∈ l, ¬ (y.1.1 < x.2.2 ∧ x.2.1 < y.1.2.1 ∧ Ahd y.1 x.1.1 ∧ whB l y = true)
def NxtP (y x : Pc) : Prop := (y.2 = x.2 ∧ y.1.1 = x.1.1 ∧ y.1.2.1 < x.1.2.1) ∨ y.2.2 ≤ x.2.1
theorem one_say {s : List Es} {l : List Sg} (hs : Wf s) (hp : (sgs s).Perm l) {o : List S3} {a b : Int} (hc : Cut (CK s) o a b) : (∀ x ∈ lkF s o, OneP s l a b x) ∧ (lkF s o).Pairwise NxtP := by
  constructor
  · intro x hx
    unfold lkF at hx
    obtain ⟨t, ht, hx⟩ := List.mem_flatMap.1 hx
    unfold pcs at hx
    obtain ⟨g, hg, rfl⟩ := List.mem_map.1 hx
    obtain ⟨hg1, hg2⟩ := (mem_sgsOf hs.nd).1 hg
    have h1 := hc.ne t ht
    have b1 := hc.is t ht t.2.1 (Int.le_refl _) h1
    have b2 := hc.is t ht (t.2.2 - 1) (by omega) (by omega)
    have hw := hc.wi t ht
    have l1 := b1.hl.1
    have l2 := b2.hl.2
    have hgl := hp.mem_iff.1 hg1
    refine ⟨hgl, (wh_iff hs hp hgl).2 (by rw [hg2]; exact b1.mem), h1, ?_, ?_, ?_⟩
    · simp only; rw [hg2]; omega
    · simp only; rw [hg2]; omega
    · rintro y hy ⟨q1, q2, q3, q4⟩
      simp only at q1 q2 q3
      rw [hg2] at q3
      have hf := (wh_iff hs hp hy).1 q4
      obtain ⟨e, he, hek, _⟩ := mem_CK.1 hf
      have hne := (hs.ok e he).ne
      rw [hek] at hne
      have bz := hc.is t ht (max y.1.1 t.2.1) (by omega) (by omega)
      rcases bz.top y.1 hf ⟨by omega, by omega⟩ with r | r
      · rw [r] at q3; exact Ahd.irrefl _ q3
      · exact q3.asymm r
  · unfold lkF
    rw [List.pairwise_flatMap]
    constructor
    · intro t ht
      unfold pcs
      rw [List.pairwise_map]
      by_cases hin : ∃ e ∈ s, e.1 = t.1
      · obtain ⟨e, he, hk⟩ := hin
        rw [← hk, sgsOf_in hs.nd he]
        unfold sgE
        rw [List.pairwise_map]
        exact (hs.up e he).imp fun q => .inl ⟨rfl, rfl, q⟩
      · rw [sgsOf_out fun e he q => hin ⟨e, he, q⟩]
        exact List.Pairwise.nil
    · refine hc.ch.imp fun {t u} q y hy x hx => ?_
      unfold pcs at hy hx
      obtain ⟨g, _, rfl⟩ := List.mem_map.1 hy
      obtain ⟨g', _, rfl⟩ := List.mem_map.1 hx
      exact .inr q
end Go.Proofs.Ytgbmigfamefenaa

namespace Go.Proofs.Ytgbmigfamefenaa
open Go.Shelf Go.RowKit Go.Maps Go.Sort
set_option linter.unusedVariables false

theorem wf_subP {P : K3 → Prop} {s t : List Es} (hs : Wf s) (ht : Wf t) (h : ∀ g, P g.1 → (g ∈ sgs s ↔ g ∈ sgs t)) : ∀ e ∈ s, P e.1 → e ∈ t := by
  intro e he hP
  obtain ⟨p, ps, hp⟩ : ∃ p ps, e.2.2 = p :: ps := by
    cases hq : e.2.2 with
    | nil => exact absurd hq (hs.ne e he)
    | cons a l => exact ⟨a, l, rfl⟩
  have h1 : (e.1, p, e.2.1) ∈ sgs s := mem_sgs.2 ⟨e, he, rfl, by rw [hp]; exact List.mem_cons_self .., rfl⟩
  obtain ⟨f, hf, q1, q2, q3⟩ := mem_sgs.1 ((h _ hP).1 h1)
  simp only at q1 q2 q3
  have hx : ∀ x, x ∈ e.2.2 ↔ x ∈ f.2.2 := by
    intro x
    constructor
    · intro hx
      obtain ⟨f', hf', r1, r2, r3⟩ := mem_sgs.1 ((h (e.1, x, e.2.1) hP).1 (mem_sgs.2 ⟨e, he, rfl, hx, rfl⟩))
      rw [key_once ht.nd hf hf' (by rw [← q1]; exact r1)]
      exact r2
    · intro hx
      obtain ⟨f', hf', r1, r2, r3⟩ := mem_sgs.1 ((h (f.1, x, f.2.1) (by rw [← q1]; exact hP)).2 (mem_sgs.2 ⟨f, hf, rfl, hx, rfl⟩))
      rw [key_once hs.nd he hf' (by rw [q1]; exact r1)]
      exact r2
  have : e = f := by
    obtain ⟨a, b, c⟩ := e
    obtain ⟨a', b', c'⟩ := f
    simp only at q1 q3 hx
    have hh : c = c' := rise_eq (hs.up _ he) (ht.up _ hf) hx
    rw [q1, q3, hh]
  rw [this]; exact hf
theorem sgsOf_P {P : K3 → Prop} {s t : List Es} (hs : Wf s) (ht : Wf t) (h : ∀ g, P g.1 → (g ∈ sgs s ↔ g ∈ sgs t)) {k : K3} (hk : P k) : sgsOf s k = sgsOf t k := by
  have m1 := wf_subP hs ht h
  have m2 := wf_subP ht hs fun g hg => (h g hg).symm
  by_cases hin : ∃ e ∈ s, e.1 = k
  · obtain ⟨e, he, rfl⟩ := hin
    rw [sgsOf_in hs.nd he, sgsOf_in ht.nd (m1 e he hk)]
  · rw [sgsOf_out fun e he q => hin ⟨e, he, q⟩, sgsOf_out fun e he q => hin ⟨e, m2 e he (by rw [q]; exact hk), q⟩]
theorem CK_P {P : K3 → Prop} {s t : List Es} (hs : Wf s) (ht : Wf t) (h : ∀ g, P g.1 → (g ∈ sgs s ↔ g ∈ sgs t)) {k : K3} (hk : P k) : k ∈ CK s ↔ k ∈ CK t := by
  rw [mem_CK, mem_CK]
  constructor
  · rintro ⟨e, he, rfl, q⟩; exact ⟨e, wf_subP hs ht h e he hk, rfl, q⟩
  · rintro ⟨e, he, rfl, q⟩; exact ⟨e, wf_subP ht hs (fun g hg => (h g hg).symm) e he hk, rfl, q⟩
theorem bst_congr {L M : List K3} (h : ∀ k, k ∈ L ↔ k ∈ M) (x : Int) (k : K3) : Bst L x k ↔ Bst M x k :=
  ⟨fun b => ⟨(h k).1 b.mem, b.hl, fun o ho hx => b.top o ((h o).2 ho) hx⟩, fun b => ⟨(h k).2 b.mem, b.hl, fun o ho hx => b.top o ((h o).1 ho) hx⟩⟩
theorem lkF_congr {s t : List Es} {o : List S3} (h : ∀ u ∈ o, sgsOf s u.1 = sgsOf t u.1) : lkF s o = lkF t o := by
  unfold lkF
  induction o with
  | nil => rfl
  | cons u o ih =>
    rw [List.flatMap_cons, List.flatMap_cons, ih fun v hv => h v (List.mem_cons_of_mem _ hv)]
    unfold pcs
    rw [h u (List.mem_cons_self ..)]
/-- What counts at each time is the same: all that is told is. -/
theorem lk_same {s t : List Es} {a b : Int} {out out' : List S3} (ho : Say (keysF (pC a b s) s) out 1099511627776) (ho' : Say (keysF (pC a b t) t) out' 1099511627776)
    (hb : ∀ x k, Bst (keysF (pC a b s) s) x k ↔ Bst (keysF (pC a b t) t) x k) (hk : ∀ x k, Bst (keysF (pC a b s) s) x k → sgsOf s k = sgsOf t k) : out = out' ∧ lkF s (cutS a b out) = lkF t (cutS a b out') := by
  have e := say_unique (fun x _ k => hb x k) ho ho'
  subst e
  refine ⟨rfl, lkF_congr fun u hu => ?_⟩
  obtain ⟨v, hv, q, rfl⟩ := mem_cutS.1 hu
  exact hk v.2.1 v.1 (ho.is v hv v.2.1 (Int.le_refl _) (ho.ne v hv))
/-- .. where the same sets are complete. -/
theorem lk_same_P {P : K3 → Prop} {s t : List Es} (hs : Wf s) (ht : Wf t) (h : ∀ g, P g.1 → (g ∈ sgs s ↔ g ∈ sgs t)) (h1 : ∀ k ∈ CK s, P k) (h2 : ∀ k ∈ CK t, P k) {a b : Int} {out out' : List S3} (ho : Say (keysF (pC a b s) s) out 1099511627776) (ho' : Say (keysF (pC a b t) t) out' 1099511627776) : out = out' ∧ lkF s (cutS a b out) = lkF t (cutS a b out') := by
  have hm : ∀ k, k ∈ CK s ↔ k ∈ CK t := fun k => by
    by_cases q : P k
    · exact CK_P hs ht h q
    · exact ⟨fun r => absurd (h1 k r) q, fun r => absurd (h2 k r) q⟩
  refine lk_same ho ho' (fun x k => bst_congr (fun k => ?_) x k) fun x k hb => sgsOf_P hs ht h (h1 k (mem_LK.1 hb.mem).1)
  rw [mem_LK, mem_LK, hm]
/-- The set of LineWaits. -/
def KW : K3 := (0, 1099511627776, 9)
def prt (last i : Nat) : List Nat := (List.range i).filter fun p => decide (p ≠ last)
def prS (core last i : Nat) : List Sg := (prt last i).map fun p : Nat => (KW, (p : Int), (core : Int))
theorem prt_succ (last i : Nat) : prt last (i + 1) = prt last i ++ if i ≠ last then [i] else [] := by
  unfold prt
  rw [List.range_succ, List.filter_append]
  congr 1
  by_cases h : i = last <;> simp [h]
theorem mem_prS {core last i : Nat} {g : Sg} : g ∈ prS core last i ↔ ∃ p : Nat, p < i ∧ p ≠ last ∧ g = (KW, (p : Int), (core : Int)) := by
  unfold prS prt
  rw [List.mem_map]
  constructor
  · rintro ⟨p, hp, rfl⟩
    rw [List.mem_filter, List.mem_range, decide_eq_true_eq] at hp
    exact ⟨p, hp.1, hp.2, rfl⟩
  · rintro ⟨p, h1, h2, rfl⟩
    exact ⟨p, List.mem_filter.2 ⟨List.mem_range.2 h1, decide_eq_true h2⟩, rfl⟩
/-- While its parts are added. -/
structure WtS (l : List Sg) (core last i : Nat) (s : List Es) : Prop where
  wf : Wf s
  pm : (sgs s).Perm (prS core last i ++ l)
theorem kw_no {l : List Sg} (hf : ∀ g ∈ l, Few g) : ∀ g ∈ l, g.1 ≠ KW := by
  intro g hg q
  have := (hf g hg).v1
  rw [q] at this
  unfold KW at this
  simp at this
theorem kw_may (core i : Nat) : may (KW, (i : Int), (core : Int)) = true := by
  refine may_iff.2 ⟨?_, ?_, ?_, ?_, ?_, ?_⟩ <;> simp only [KW] <;> omega
theorem kw_b3 : B3 KW := ⟨by decide, by decide, by decide, by decide, by decide, by decide⟩
theorem WtS.add {l : List Sg} {core last i : Nat} {s : List Es} (h : WtS l core last i s) (hf : ∀ g ∈ l, Few g) (p : Nat) (hp : p = last ∨ i ≤ p) : (addF s (KW, (p : Int), (core : Int))).1 = 0 ∧ Wf (addF s (KW, (p : Int), (core : Int))).2 ∧ (sgs (addF s (KW, (p : Int), (core : Int))).2).Perm ((KW, (p : Int), (core : Int)) :: (prS core last i ++ l)) := by
  have h0 : (addF s (KW, (p : Int), (core : Int))).1 = 0 := by
    refine add_ok h.wf (kw_may core p) fun x hx hk => ?_
    have hm := h.pm.mem_iff.1 hx
    rcases List.mem_append.1 hm with q | q
    · obtain ⟨j, h1, h2, rfl⟩ := mem_prS.1 q
      refine ⟨fun e => ?_, rfl⟩
      simp only at e
      omega
    · exact absurd hk (kw_no hf x q)
  obtain ⟨w1, w2, _⟩ := add_wf h.wf (KW, (p : Int), (core : Int)) kw_b3
  exact ⟨h0, w1, (w2 h0).1.trans (List.Perm.cons _ h.pm)⟩
theorem WtS.next {l : List Sg} {core last i : Nat} {s : List Es} (h : WtS l core last i s) (hf : ∀ g ∈ l, Few g) (hi : i ≠ last) : (addF s (KW, (i : Int), (core : Int))).1 = 0 ∧ WtS l core last (i + 1) (addF s (KW, (i : Int), (core : Int))).2 := by
  obtain ⟨h0, h1, h2⟩ := h.add hf i (.inr (Nat.le_refl _))
  refine ⟨h0, h1, h2.trans ?_⟩
  have e : prS core last (i + 1) = prS core last i ++ [(KW, (i : Int), (core : Int))] := by
    unfold prS
    rw [prt_succ, if_pos hi, List.map_append]
    rfl
  rw [e, List.append_assoc]
  exact List.perm_middle.symm
theorem WtS.skip {l : List Sg} {core last : Nat} {s : List Es} (h : WtS l core last last s) : WtS l core last (last + 1) s := by
  refine ⟨h.wf, ?_⟩
  have e : prS core last (last + 1) = prS core last last := by
    unfold prS
    rw [prt_succ, if_neg (by simp), List.append_nil]
  rw [e]
  exact h.pm
/-- As long as the last part is missing, all is told as before. -/
theorem WtS.same {l : List Sg} {core last : Nat} {s s' : List Es} (hl : last < core) (h : WtS l core last (core + 1) s') (hs : Wf s) (hp : (sgs s).Perm l) (hf : ∀ g ∈ l, Few g) {a b : Int} {out out' : List S3} (ho : Say (keysF (pC a b s) s) out 1099511627776) (ho' : Say (keysF (pC a b s') s') out' 1099511627776) : lkF s' (cutS a b out') = lkF s (cutS a b out) := by
  have hno := kw_no hf
  refine ((lk_same_P (P := fun k => k ≠ KW) hs h.wf (fun g hg => ?_) (fun k hk => ?_) (fun k hk => ?_) ho ho').2).symm
  · rw [hp.mem_iff, h.pm.mem_iff, List.mem_append]
    constructor
    · intro q; exact .inr q
    · rintro (q | q)
      · obtain ⟨p, _, _, rfl⟩ := mem_prS.1 q
        exact absurd rfl hg
      · exact q
  · obtain ⟨g, hg, rfl, _⟩ := ck_seg hs hp hk
    exact hno g hg
  · rintro rfl
    obtain ⟨e, he, hk1, hc⟩ := mem_CK.1 hk
    obtain ⟨p, ps, hps⟩ : ∃ p ps, e.2.2 = p :: ps := by
      cases hq : e.2.2 with
      | nil => exact absurd hq (h.wf.ne e he)
      | cons a l => exact ⟨a, l, rfl⟩
    have hpin : (e.1, p, e.2.1) ∈ sgs s' := mem_sgs.2 ⟨e, he, rfl, by rw [hps]; exact List.mem_cons_self .., rfl⟩
    have hco : e.2.1 = (core : Int) := by
      rcases List.mem_append.1 (h.pm.mem_iff.1 hpin) with q | q
      · obtain ⟨_, _, _, r⟩ := mem_prS.1 q
        simp only [Prod.mk.injEq] at r
        exact r.2.2
      · exact absurd hk1 (hno _ q)
    have hmem := (cmpl_iff (h.wf.ok e he).co (h.wf.up e he) (h.wf.lo e he)).1 hc (last : Int) (by omega) (by rw [hco]; omega)
    have hin : (e.1, (last : Int), e.2.1) ∈ sgs s' := mem_sgs.2 ⟨e, he, rfl, hmem, rfl⟩
    rcases List.mem_append.1 (h.pm.mem_iff.1 hin) with q | q
    · obtain ⟨p', _, r2, r⟩ := mem_prS.1 q
      simp only [Prod.mk.injEq] at r
      omega
    · exact hno _ q hk1
def flW (core : Nat) : List Sg := (List.range (core + 1)).map fun p : Nat => (KW, (p : Int), (core : Int))
/-- When it comes, the set counts everywhere. -/
theorem WtS.full {l : List Sg} {core last : Nat} {s s' : List Es} (hl : last < core) (h : WtS l core last (core + 1) s') (hf : ∀ g ∈ l, Few g) (hs : Wf s) (hp : (sgs s).Perm ((KW, (last : Int), (core : Int)) :: (prS core last (core + 1) ++ l))) {out : List S3} (ho : Say (keysF (pC 0 1099511627776 s) s) out 1099511627776) : lkF s (cutS 0 1099511627776 out) = (flW core).map fun g => ((g, 0, 1099511627776) : Pc) := by
  have hno := kw_no hf
  have hkw : ∀ p : Int, (KW, p, (core : Int)) ∈ sgs s ↔ ∃ q : Nat, q < core + 1 ∧ p = (q : Int) := by
    intro p
    rw [hp.mem_iff, List.mem_cons, List.mem_append, mem_prS]
    constructor
    · rintro (q | ⟨r, r1, r2, r3⟩ | q)
      · simp only [Prod.mk.injEq] at q
        exact ⟨last, by omega, q.2.1⟩
      · simp only [Prod.mk.injEq] at r3
        exact ⟨r, r1, r3.2.1⟩
      · exact absurd rfl (hno _ q)
    · rintro ⟨q, q1, rfl⟩
      by_cases hq : q = last
      · subst hq; exact .inl rfl
      · exact .inr (.inl ⟨q, q1, hq, rfl⟩)
  obtain ⟨e, he, e1, e2, e3⟩ := mem_sgs.1 ((hkw 0).2 ⟨0, by omega, rfl⟩)
  simp only at e1 e2 e3
  have hps : e.2.2 = (List.range (core + 1)).map fun p : Nat => (p : Int) := by
    refine rise_eq (hs.up e he) ?_ fun x => ?_
    · rw [List.pairwise_map]
      exact List.pairwise_lt_range.imp fun q => by omega
    · have : x ∈ e.2.2 ↔ (KW, x, (core : Int)) ∈ sgs s := by
        constructor
        · intro q; exact mem_sgs.2 ⟨e, he, e1, q, e3⟩
        · intro q
          obtain ⟨f, hf', f1, f2, f3⟩ := mem_sgs.1 q
          rw [key_once hs.nd he hf' (e1.symm.trans f1)]
          exact f2
      rw [this, hkw x, List.mem_map]
      constructor
      · rintro ⟨q, q1, rfl⟩; exact ⟨q, List.mem_range.2 q1, rfl⟩
      · rintro ⟨q, q1, rfl⟩; exact ⟨q, List.mem_range.1 q1, rfl⟩
  have hck : KW ∈ CK s := mem_CK.2 ⟨e, he, e1.symm, (cmpl_iff (hs.ok e he).co (hs.up e he) (hs.lo e he)).2 fun q q1 q2 => by
    rw [hps, List.mem_map]
    exact ⟨q.toNat, List.mem_range.2 (by omega), by omega⟩⟩
  have hof : sgsOf s KW = flW core := by
    rw [e1, sgsOf_in hs.nd he]
    unfold sgE flW
    rw [hps, List.map_map, ← e1, ← e3]
    rfl
  have hmem : ∀ k ∈ CK s, k ≠ KW → 0 ≤ k.1 ∧ k.2.1 ≤ 20 ∧ k.2.2 < 4 := by
    intro k hk hne
    obtain ⟨g, hg, hgk, _⟩ := ck_seg hs (List.Perm.refl _) hk
    subst hgk
    have hm := hp.mem_iff.1 hg
    rcases List.mem_cons.1 hm with q | q
    · rw [q] at hne; exact absurd rfl hne
    · rcases List.mem_append.1 q with q | q
      · obtain ⟨_, _, _, r⟩ := mem_prS.1 q
        rw [r] at hne; exact absurd rfl hne
      · have hh := hf g q
        have := hh.f0; have := hh.f1; have := hh.t1; have := hh.v1
        exact ⟨by omega, by omega, by omega⟩
  have hL : ∀ k, k ∈ keysF (pC 0 1099511627776 s) s → k = KW ∨ (0 ≤ k.1 ∧ k.2.1 ≤ 20 ∧ k.2.2 < 4) := by
    intro k hk
    by_cases q : k = KW
    · exact .inl q
    · exact .inr (hmem k (mem_LK.1 hk).1 q)
  have hout : out = [(KW, 0, 1099511627776)] := by
    refine say_unique (fun _ _ _ => Iff.rfl) ho ⟨?_, ?_, trivial, ?_, ?_, ?_⟩
    · intro t ht; rw [List.mem_singleton.1 ht]; decide
    · exact List.pairwise_singleton ..
    · intro t ht; rw [List.mem_singleton.1 ht]; decide
    · intro t ht x h1 h2
      rw [List.mem_singleton.1 ht] at h1 h2 ⊢
      refine ⟨mem_LK.2 ⟨hck, by decide⟩, ⟨h1, h2⟩, fun o ho hx => ?_⟩
      rcases hL o ho with q | q
      · exact .inl q
      · exact .inr (.inl (by unfold KW; simp only; omega))
    · rintro x hx ⟨k, hk, h2⟩
      refine ⟨_, List.mem_singleton.2 rfl, ?_, ?_⟩
      · show (0 : Int) ≤ x
        have h2' := h2.1
        rcases hL k hk with q | q
        · rw [q] at h2'; exact h2'
        · omega
      · exact hx
  rw [hout]
  have hc : cutS 0 1099511627776 [(KW, 0, 1099511627776)] = [(KW, 0, 1099511627776)] := by decide
  rw [hc, lkF_one]
  unfold pcs
  rw [hof]
end Go.Proofs.Ytgbmigfamefenaa
