/- What a timeline says: states, complete sets, what is told of a span. No program stands here. -/
import Derived.Test.YtgbmigfamefenaaNw0
namespace Go.Proofs.Ytgbmigfamefenaa
set_option linter.unusedVariables false

/-- A state that may be: each key once; its sets may be, and have parts, rising, from 0 on. -/
structure Wf (s : List Es) : Prop where
  nd : (s.map Prod.fst).Nodup
  ok : ∀ e ∈ s, Okk e
  ne : ∀ e ∈ s, e.2.2 ≠ []
  up : ∀ e ∈ s, e.2.2.Pairwise (· < ·)
  lo : ∀ e ∈ s, ∀ p ∈ e.2.2, 0 ≤ p
theorem Wf.nil : Wf [] := ⟨List.nodup_nil, (fun _ h => by cases h), (fun _ h => by cases h), (fun _ h => by cases h), (fun _ h => by cases h)⟩
/-- The segments of a state. -/
def sgE (e : Es) : List Sg := e.2.2.map fun p => (e.1, p, e.2.1)
def sgs (s : List Es) : List Sg := s.flatMap sgE
theorem mem_sgE {e : Es} {g : Sg} : g ∈ sgE e ↔ g.1 = e.1 ∧ g.2.1 ∈ e.2.2 ∧ g.2.2 = e.2.1 := by
  obtain ⟨k, p, c⟩ := g
  unfold sgE
  simp only [List.mem_map, Prod.mk.injEq]
  constructor
  · rintro ⟨q, hq, rfl, rfl, rfl⟩; exact ⟨rfl, hq, rfl⟩
  · rintro ⟨rfl, hq, rfl⟩; exact ⟨p, hq, rfl, rfl, rfl⟩
theorem mem_sgs {s : List Es} {g : Sg} : g ∈ sgs s ↔ ∃ e ∈ s, g.1 = e.1 ∧ g.2.1 ∈ e.2.2 ∧ g.2.2 = e.2.1 := by
  unfold sgs
  rw [List.mem_flatMap]
  exact exists_congr fun e => and_congr_right fun _ => mem_sgE
theorem key_once {s : List Es} (h : (s.map Prod.fst).Nodup) {e f : Es} (he : e ∈ s) (hf : f ∈ s) (hk : e.1 = f.1) : e = f := by
  induction s with
  | nil => cases he
  | cons a s ih =>
    rw [List.map_cons, List.nodup_cons] at h
    rcases List.mem_cons.1 he with q | q
    · rcases List.mem_cons.1 hf with r | r
      · rw [q, r]
      · exact absurd (by rw [← q, hk]; exact List.mem_map.2 ⟨f, r, rfl⟩) h.1
    · rcases List.mem_cons.1 hf with r | r
      · exact absurd (by rw [← r, ← hk]; exact List.mem_map.2 ⟨e, q, rfl⟩) h.1
      · exact ih h.2 q r
theorem find_in {s : List Es} (h : (s.map Prod.fst).Nodup) {e : Es} (he : e ∈ s) {k : K3} (hk : e.1 = k) : s.find? (fun x => x.1 == k) = some e := by
  cases hf : s.find? (fun x => x.1 == k) with
  | none =>
    have := List.find?_eq_none.1 hf e he
    simp [hk] at this
  | some f =>
    have h1 := List.mem_of_find?_eq_some hf
    have h2 := List.find?_some hf
    rw [key_once h h1 he (by simp at h2; rw [h2, hk])]
theorem find_out {s : List Es} {k : K3} (hk : ∀ e ∈ s, e.1 ≠ k) : s.find? (fun x => x.1 == k) = none := by
  rw [List.find?_eq_none]
  intro e he
  simpa using hk e he
theorem sgsOf_in {s : List Es} (h : (s.map Prod.fst).Nodup) {e : Es} (he : e ∈ s) : sgsOf s e.1 = sgE e := by
  unfold sgsOf
  rw [find_in h he rfl]
  rfl
theorem sgsOf_out {s : List Es} {k : K3} (hk : ∀ e ∈ s, e.1 ≠ k) : sgsOf s k = [] := by
  unfold sgsOf
  rw [find_out hk]
theorem mem_sgsOf {s : List Es} (h : (s.map Prod.fst).Nodup) {k : K3} {g : Sg} : g ∈ sgsOf s k ↔ g ∈ sgs s ∧ g.1 = k := by
  by_cases hin : ∃ e ∈ s, e.1 = k
  · obtain ⟨e, he, rfl⟩ := hin
    rw [sgsOf_in h he, mem_sgE, mem_sgs]
    constructor
    · rintro ⟨h1, h2, h3⟩; exact ⟨⟨e, he, h1, h2, h3⟩, h1⟩
    · rintro ⟨⟨f, hf, h1, h2, h3⟩, h4⟩
      have := key_once h hf he (by rw [← h1, h4])
      subst this
      exact ⟨h1, h2, h3⟩
  · have hk : ∀ e ∈ s, e.1 ≠ k := fun e he q => hin ⟨e, he, q⟩
    rw [sgsOf_out hk]
    constructor
    · intro q; cases q
    · rintro ⟨q, rfl⟩
      obtain ⟨e, he, h1, _⟩ := mem_sgs.1 q
      exact absurd h1.symm (hk e he)
/-- Rows that rise and have the same numbers are one. -/
theorem rise_eq {l m : List Int} (hl : l.Pairwise (· < ·)) (hm : m.Pairwise (· < ·)) (h : ∀ x, x ∈ l ↔ x ∈ m) : l = m := by
  have nl : l.Nodup := hl.imp fun q => by omega
  have nm : m.Nodup := hm.imp fun q => by omega
  exact List.Perm.eq_of_pairwise (le := fun a b => a < b) (fun a b _ _ q1 q2 => by omega) hl hm ((List.perm_ext_iff_of_nodup nl nm).2 h)
/-- A state is told by its segments. -/
theorem wf_sub {s t : List Es} (hs : Wf s) (ht : Wf t) (h : ∀ g, g ∈ sgs s ↔ g ∈ sgs t) : ∀ e ∈ s, e ∈ t := by
  intro e he
  obtain ⟨p, ps, hp⟩ : ∃ p ps, e.2.2 = p :: ps := by
    cases hq : e.2.2 with
    | nil => exact absurd hq (hs.ne e he)
    | cons a l => exact ⟨a, l, rfl⟩
  have h1 : (e.1, p, e.2.1) ∈ sgs s := mem_sgs.2 ⟨e, he, rfl, by rw [hp]; exact List.mem_cons_self .., rfl⟩
  obtain ⟨f, hf, q1, q2, q3⟩ := mem_sgs.1 ((h _).1 h1)
  simp only at q1 q2 q3
  have hx : ∀ x, x ∈ e.2.2 ↔ x ∈ f.2.2 := by
    intro x
    constructor
    · intro hx
      obtain ⟨f', hf', r1, r2, r3⟩ := mem_sgs.1 ((h (e.1, x, e.2.1)).1 (mem_sgs.2 ⟨e, he, rfl, hx, rfl⟩))
      rw [key_once ht.nd hf hf' (by rw [← q1]; exact r1)]
      exact r2
    · intro hx
      obtain ⟨f', hf', r1, r2, r3⟩ := mem_sgs.1 ((h (f.1, x, f.2.1)).2 (mem_sgs.2 ⟨f, hf, rfl, hx, rfl⟩))
      rw [key_once hs.nd he hf' (by rw [q1]; exact r1)]
      exact r2
  have : e = f := by
    obtain ⟨a, b, c⟩ := e
    obtain ⟨a', b', c'⟩ := f
    simp only at q1 q3 hx
    have hh : c = c' := rise_eq (hs.up _ he) (ht.up _ hf) hx
    rw [q1, q3, hh]
  rw [this]; exact hf
theorem wf_mem {s t : List Es} (hs : Wf s) (ht : Wf t) (h : ∀ g, g ∈ sgs s ↔ g ∈ sgs t) (e : Es) : e ∈ s ↔ e ∈ t := ⟨wf_sub hs ht h e, wf_sub ht hs (fun g => (h g).symm) e⟩
theorem keysF_same {s t : List Es} (hs : Wf s) (ht : Wf t) (h : ∀ e, e ∈ s ↔ e ∈ t) (p : K3 → Bool) : keysF p s = keysF p t := by
  unfold keysF
  refine srtK_eq (ht.nd.sublist ((List.filter_sublist).map _)) ?_ ((srtK_rise (hs.nd.sublist ((List.filter_sublist).map _))).imp fun {a b} q r => ?_)
  · refine (srtK_perm _).trans ?_
    have nds : s.Nodup := List.Pairwise.of_map Prod.fst (fun a b q r => q (by rw [r])) hs.nd
    have ndt : t.Nodup := List.Pairwise.of_map Prod.fst (fun a b q r => q (by rw [r])) ht.nd
    exact ((List.Perm.filter _ ((List.perm_ext_iff_of_nodup nds ndt).2 h)).map _)
  · unfold Stn at *; omega
theorem sgsOf_same {s t : List Es} (hs : Wf s) (ht : Wf t) (h : ∀ e, e ∈ s ↔ e ∈ t) (k : K3) : sgsOf s k = sgsOf t k := by
  by_cases hin : ∃ e ∈ s, e.1 = k
  · obtain ⟨e, he, rfl⟩ := hin
    rw [sgsOf_in hs.nd he, sgsOf_in ht.nd ((h e).1 he)]
  · rw [sgsOf_out fun e he q => hin ⟨e, he, q⟩, sgsOf_out fun e he q => hin ⟨e, (h e).2 he, q⟩]
theorem segL_same {s t : List Es} (hs : Wf s) (ht : Wf t) (h : ∀ e, e ∈ s ↔ e ∈ t) (ks : List K3) : segL s ks = segL t ks := by
  unfold segL
  exact congrArg (fun f => ks.flatMap f) (funext fun k => sgsOf_same hs ht h k)
theorem pC_same {s t : List Es} (h : ∀ e, e ∈ s ↔ e ∈ t) (a b : Int) : pC a b s = pC a b t := by
  funext k
  unfold pC
  congr 1
  rw [Bool.eq_iff_iff, List.any_eq_true, List.any_eq_true]
  exact exists_congr fun e => and_congr_left fun _ => h e
/-- A set whose parts rise from 0 on is complete, just if all below the core are there. -/
theorem part_at {ps : List Int} (up : ps.Pairwise (· < ·)) (lo : ∀ p ∈ ps, 0 ≤ p) : ∀ i (hi : i < ps.length), (i : Int) ≤ ps[i] := by
  intro i
  induction i with
  | zero => intro hi; exact lo _ (List.getElem_mem hi)
  | succ i ih =>
    intro hi
    have h1 := ih (by omega)
    have h2 := (List.pairwise_iff_getElem.1 up) i (i + 1) (by omega) hi (by omega)
    omega
theorem cmpl_iff {core : Int} {ps : List Int} (hc : 0 ≤ core) (up : ps.Pairwise (· < ·)) (lo : ∀ p ∈ ps, 0 ≤ p) : cmpl core ps = true ↔ ∀ q, 0 ≤ q → q < core → q ∈ ps := by
  unfold cmpl
  rw [Bool.or_eq_true, Bool.and_eq_true, decide_eq_true_eq, decide_eq_true_eq, decide_eq_true_eq]
  constructor
  · rintro (h | ⟨h1, h2⟩) q hq1 hq2
    · omega
    · have hlt : (core - 1).toNat < ps.length := by omega
      rw [List.getD, List.getElem?_eq_getElem hlt, Option.getD_some] at h2
      -- ps[i] = i for every i below the core
      have key : ∀ d i (hi : i < ps.length), i + d = (core - 1).toNat → ps[i] ≤ (i : Int) := by
        intro d
        induction d with
        | zero => intro i hi e; have : i = (core - 1).toNat := by omega
                  subst this; omega
        | succ d ih =>
          intro i hi e
          have h3 := ih (i + 1) (by omega) (by omega)
          have h4 := (List.pairwise_iff_getElem.1 up) i (i + 1) hi (by omega) (by omega)
          omega
      have h5 := key ((core - 1).toNat - q.toNat) q.toNat (by omega) (by omega)
      have h6 := part_at up lo q.toNat (by omega)
      have : ps[q.toNat]'(by omega) = q := by omega
      rw [← this]
      exact List.getElem_mem _
  · intro h
    by_cases h0 : core = 0
    · exact .inl h0
    · right
      -- 0, 1, .., core - 1 stand at their places
      have key : ∀ n : Nat, (n : Int) < core → ∃ hn : n < ps.length, ps[n] = (n : Int) := by
        intro n
        induction n with
        | zero =>
          intro hn
          obtain ⟨j, hj, e⟩ := List.getElem_of_mem (h 0 (by omega) hn)
          have h1 := part_at up lo j hj
          have : j = 0 := by omega
          subst this
          exact ⟨hj, e⟩
        | succ n ih =>
          intro hn
          obtain ⟨h1, h2⟩ := ih (by omega)
          obtain ⟨j, hj, e⟩ := List.getElem_of_mem (h (n + 1 : Nat) (by omega) hn)
          have h3 := part_at up lo j hj
          have h4 : n < j := by
            rcases Nat.lt_trichotomy j n with q | q | q
            · have := (List.pairwise_iff_getElem.1 up) j n hj h1 q; omega
            · subst q; omega
            · exact q
          have : j = n + 1 := by omega
          subst this
          exact ⟨hj, e⟩
      obtain ⟨h1, h2⟩ := key (core - 1).toNat (by omega)
      refine ⟨by omega, ?_⟩
      rw [List.getD, List.getElem?_eq_getElem h1, Option.getD_some, h2]
      omega
/-- The keys of the complete sets. -/
def CK (s : List Es) : List K3 := (s.filter fun e => cmpl e.2.1 e.2.2).map Prod.fst
theorem mem_CK {s : List Es} {k : K3} : k ∈ CK s ↔ ∃ e ∈ s, e.1 = k ∧ cmpl e.2.1 e.2.2 = true := by
  unfold CK
  rw [List.mem_map]
  constructor
  · rintro ⟨e, he, q⟩; have := List.mem_filter.1 he; exact ⟨e, this.1, q, this.2⟩
  · rintro ⟨e, he, q, r⟩; exact ⟨e, List.mem_filter.2 ⟨he, r⟩, q⟩
theorem mem_LK {s : List Es} {a b : Int} {k : K3} : k ∈ keysF (pC a b s) s ↔ k ∈ CK s ∧ max k.1 a < min k.2.1 b := by
  rw [mem_keysF, mem_CK]
  unfold pC mt
  constructor
  · rintro ⟨e, he, h1, rfl⟩
    rw [Bool.and_eq_true, decide_eq_true_eq, List.any_eq_true] at h1
    obtain ⟨h1, f, hf, h2⟩ := h1
    rw [Bool.and_eq_true, beq_iff_eq] at h2
    exact ⟨⟨f, hf, h2.1, h2.2⟩, h1⟩
  · rintro ⟨⟨e, he, rfl, h2⟩, h1⟩
    refine ⟨e, he, ?_, rfl⟩
    rw [Bool.and_eq_true, decide_eq_true_eq, List.any_eq_true]
    exact ⟨h1, e, he, by simp [h2]⟩
/-- At a time of the span the sets that meet it count as all do. -/
theorem bst_LK {s : List Es} {a b x : Int} (h1 : a ≤ x) (h2 : x < b) (k : K3) : Bst (keysF (pC a b s) s) x k ↔ Bst (CK s) x k := by
  have meets : ∀ o : K3, Hl o x → max o.1 a < min o.2.1 b := fun o ho => by unfold Hl at ho; omega
  constructor
  · intro h
    exact ⟨(mem_LK.1 h.mem).1, h.hl, fun o ho hx => h.top o (mem_LK.2 ⟨ho, meets o hx⟩) hx⟩
  · intro h
    exact ⟨mem_LK.2 ⟨h.mem, meets k h.hl⟩, h.hl, fun o ho hx => h.top o (mem_LK.1 ho).1 hx⟩
/-- What is told of a span. -/
def cut1 (a b : Int) (t : S3) : List S3 := if max t.2.1 a < min t.2.2 b then [(t.1, max t.2.1 a, min t.2.2 b)] else []
def cutS (a b : Int) (out : List S3) : List S3 := out.flatMap (cut1 a b)
abbrev Pc := Sg × Int × Int
def pcs (s : List Es) (t : S3) : List Pc := (sgsOf s t.1).map fun g => (g, t.2.1, t.2.2)
def lkF (s : List Es) (o : List S3) : List Pc := o.flatMap (pcs s)
/-- A row of stretches within a span. -/
structure Cut (C : List K3) (o : List S3) (a b : Int) : Prop where
  ne : ∀ t ∈ o, t.2.1 < t.2.2
  ch : Chn o
  wi : ∀ t ∈ o, a ≤ t.2.1 ∧ t.2.2 ≤ b
  is : ∀ t ∈ o, ∀ x, t.2.1 ≤ x → x < t.2.2 → Bst C x t.1
  all : ∀ x, a ≤ x → x < b → (∃ k ∈ C, Hl k x) → ∃ t ∈ o, t.2.1 ≤ x ∧ x < t.2.2
theorem mem_cutS {a b : Int} {out : List S3} {t : S3} : t ∈ cutS a b out ↔ ∃ u ∈ out, max u.2.1 a < min u.2.2 b ∧ t = (u.1, max u.2.1 a, min u.2.2 b) := by
  unfold cutS
  rw [List.mem_flatMap]
  refine exists_congr fun u => and_congr_right fun _ => ?_
  unfold cut1
  split
  · rename_i h; simp [h]
  · rename_i h; simp [h]
theorem chn_cut {a b : Int} {out : List S3} (h : Chn out) : Chn (cutS a b out) := by
  unfold Chn cutS
  rw [List.pairwise_flatMap]
  refine ⟨fun t _ => ?_, h.imp fun {x y} q u hu v hv => ?_⟩
  · unfold cut1; split
    · exact List.pairwise_singleton ..
    · exact List.Pairwise.nil
  · unfold cut1 at hu hv
    split at hu
    · split at hv
      · rw [List.mem_singleton.1 hu, List.mem_singleton.1 hv]; simp only; omega
      · cases hv
    · cases hu
theorem cut_of {s : List Es} (hs : Wf s) {a b : Int} {out : List S3} (h : Say (keysF (pC a b s) s) out 1099511627776) : Cut (CK s) (cutS a b out) a b := by
  refine ⟨fun t ht => ?_, chn_cut h.ch, fun t ht => ?_, fun t ht x h1 h2 => ?_, fun x h1 h2 h3 => ?_⟩
  · obtain ⟨u, hu, q, rfl⟩ := mem_cutS.1 ht; exact q
  · obtain ⟨u, hu, q, rfl⟩ := mem_cutS.1 ht; simp only; omega
  · obtain ⟨u, hu, q, rfl⟩ := mem_cutS.1 ht
    simp only at h1 h2
    exact (bst_LK (by omega) (by omega) _).1 (h.is u hu x (by omega) (by omega))
  · obtain ⟨k, hk, hx⟩ := h3
    obtain ⟨e, he, rfl, _⟩ := mem_CK.1 hk
    have hi := (hs.ok e he).hi
    have hx' := hx
    unfold Hl at hx'
    obtain ⟨t, ht, q1, q2⟩ := h.all x (by omega) ⟨e.1, mem_LK.2 ⟨hk, by omega⟩, hx⟩
    exact ⟨_, mem_cutS.2 ⟨t, ht, by omega, rfl⟩, by simp only; omega, by simp only; omega⟩
end Go.Proofs.Ytgbmigfamefenaa
