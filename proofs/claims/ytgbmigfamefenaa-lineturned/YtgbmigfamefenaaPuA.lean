/- What Add and Remove do. No program stands here. -/
import Derived.Test.YtgbmigfamefenaaPuM
namespace Go.Proofs.Ytgbmigfamefenaa
set_option linter.unusedVariables false

/-- A part is put in. -/
def insP (ps : List Int) (x : Int) : List Int := ps.take (ps.countP (· < x)) ++ x :: ps.drop (ps.countP (· < x))
theorem split_at {ps : List Int} (up : ps.Pairwise (· < ·)) (x : Int) : (∀ p ∈ ps.take (ps.countP (· < x)), p < x) ∧ (∀ p ∈ ps.drop (ps.countP (· < x)), x ≤ p) := by
  induction ps with
  | nil => simp
  | cons a ps ih =>
    obtain ⟨h1, h2⟩ := List.pairwise_cons.1 up
    by_cases h : a < x
    · rw [List.countP_cons_of_pos (by simpa using h)]
      have := ih h2
      constructor
      · intro p hp
        rw [List.take_succ_cons] at hp
        rcases List.mem_cons.1 hp with q | q
        · omega
        · exact this.1 p q
      · intro p hp
        rw [List.drop_succ_cons] at hp
        exact this.2 p hp
    · rw [List.countP_cons_of_neg (by simpa using h)]
      have e : ps.countP (· < x) = 0 := by
        rw [List.countP_eq_zero]
        intro p hp
        have := h1 p hp
        simp; omega
      rw [e]
      constructor
      · intro p hp; simp at hp
      · intro p hp
        rw [List.drop_zero] at hp
        rcases List.mem_cons.1 hp with q | q
        · omega
        · have := h1 p q; omega
theorem insP_perm (ps : List Int) (x : Int) : (insP ps x).Perm (x :: ps) := by
  unfold insP
  refine List.perm_middle.trans ?_
  rw [List.take_append_drop]
theorem insP_rise {ps : List Int} (up : ps.Pairwise (· < ·)) {x : Int} (hx : x ∉ ps) : (insP ps x).Pairwise (· < ·) := by
  obtain ⟨h1, h2⟩ := split_at up x
  unfold insP
  refine List.pairwise_append.2 ⟨up.sublist (List.take_sublist _ _), List.pairwise_cons.2 ⟨fun p hp => ?_, up.sublist (List.drop_sublist _ _)⟩, fun p hp q hq => ?_⟩
  · have := h2 p hp
    have hne : p ≠ x := fun e => hx (e ▸ List.mem_of_mem_drop hp)
    omega
  · have := h1 p hp
    rcases List.mem_cons.1 hq with r | r
    · omega
    · have := h2 q r; omega
/-- A part is taken out. -/
def delP (ps : List Int) (x : Int) : List Int := ps.take (ps.countP (· < x)) ++ ps.drop (ps.countP (· < x) + 1)
theorem at_count {ps : List Int} (up : ps.Pairwise (· < ·)) {x : Int} (hx : x ∈ ps) : ∃ h : ps.countP (· < x) < ps.length, ps[ps.countP (· < x)] = x := by
  obtain ⟨h1, h2⟩ := split_at up x
  rw [← List.take_append_drop (ps.countP (· < x)) ps, List.mem_append] at hx
  rcases hx with q | q
  · have := h1 x q; omega
  · have hlt : ps.countP (· < x) < ps.length := by
      rcases Nat.lt_or_ge (ps.countP (· < x)) ps.length with r | r
      · exact r
      · rw [List.drop_of_length_le r] at q; cases q
    refine ⟨hlt, ?_⟩
    have e := List.drop_eq_getElem_cons hlt
    rw [e] at q
    rcases List.mem_cons.1 q with r | r
    · exact r.symm
    · have u2 := up.sublist (List.drop_sublist (ps.countP (· < x)) ps)
      rw [e] at u2
      have h3 := (List.pairwise_cons.1 u2).1 x r
      have h4 := h2 ps[ps.countP (· < x)] (by rw [e]; exact List.mem_cons_self ..)
      omega
theorem delP_perm {ps : List Int} (up : ps.Pairwise (· < ·)) {x : Int} (hx : x ∈ ps) : (x :: delP ps x).Perm ps := by
  obtain ⟨h1, h2⟩ := at_count up hx
  unfold delP
  refine List.perm_middle.symm.trans ?_
  have e := List.drop_eq_getElem_cons h1
  rw [h2] at e
  rw [← e, List.take_append_drop]
theorem delP_rise {ps : List Int} (up : ps.Pairwise (· < ·)) (x : Int) : (delP ps x).Pairwise (· < ·) := by
  refine up.sublist ?_
  unfold delP
  conv => rhs; rw [← List.take_append_drop (ps.countP (· < x)) ps]
  refine List.Sublist.append (List.Sublist.refl _) ?_
  rw [← List.drop_drop]
  exact List.drop_sublist ..
theorem delP_len {ps : List Int} (up : ps.Pairwise (· < ·)) {x : Int} (hx : x ∈ ps) : (delP ps x).length + 1 = ps.length := by
  have := (delP_perm up hx).length_eq
  simpa using this
/-- What Add does. -/
def updE (s : List Es) (k : K3) (ps : List Int) : List Es := s.map fun x => if x.1 = k then (x.1, x.2.1, ps) else x
def addF (s : List Es) (g : Sg) : Int × List Es :=
  if may g then
    match s.find? (fun e => e.1 == g.1) with
    | some e => if e.2.2.contains g.2.1 then (121, s) else if e.2.1 = g.2.2 then (0, updE s g.1 (insP e.2.2 g.2.1)) else (12, s)
    | none => (0, s ++ [(g.1, g.2.2, [g.2.1])])
  else (1, s)
/-- What Remove does. -/
def remF (s : List Es) (g : Sg) : Int × List Es :=
  if may g then
    match s.find? (fun e => e.1 == g.1) with
    | some e => if e.2.2.contains g.2.1 && decide (e.2.1 = g.2.2) then (0, if (delP e.2.2 g.2.1).length = 0 then s.filter fun x => !decide (x.1 = g.1) else updE s g.1 (delP e.2.2 g.2.1)) else (120, s)
    | none => (120, s)
  else (1, s)
theorem may_iff {g : Sg} : may g = true ↔ 0 ≤ g.1.1 ∧ g.1.1 < g.1.2.1 ∧ g.1.2.1 ≤ 1099511627776 ∧ 0 ≤ g.1.2.2 ∧ 0 ≤ g.2.1 ∧ 0 ≤ g.2.2 := by
  unfold may
  simp only [Bool.and_eq_true, decide_eq_true_eq]
theorem updE_keys (s : List Es) (k : K3) (ps : List Int) : (updE s k ps).map Prod.fst = s.map Prod.fst := by
  unfold updE
  rw [List.map_map]
  refine List.map_congr_left fun e _ => ?_
  simp only [Function.comp]
  split <;> rfl
theorem mem_updE {s : List Es} (h : (s.map Prod.fst).Nodup) {e : Es} (he : e ∈ s) {ps : List Int} {f : Es} : f ∈ updE s e.1 ps ↔ f = (e.1, e.2.1, ps) ∨ (f ∈ s ∧ f.1 ≠ e.1) := by
  unfold updE
  rw [List.mem_map]
  constructor
  · rintro ⟨x, hx, rfl⟩
    split
    · rename_i q
      left
      rw [key_once h hx he q]
    · rename_i q
      exact .inr ⟨hx, q⟩
  · rintro (rfl | ⟨hf, q⟩)
    · exact ⟨e, he, by rw [if_pos rfl]⟩
    · exact ⟨f, hf, by rw [if_neg q]⟩
theorem wf_updE {s : List Es} (h : Wf s) {e : Es} (he : e ∈ s) {ps : List Int} (hn : ps ≠ []) (up : ps.Pairwise (· < ·)) (lo : ∀ p ∈ ps, 0 ≤ p) : Wf (updE s e.1 ps) := by
  have hm := @mem_updE s h.nd e he ps
  refine ⟨by rw [updE_keys]; exact h.nd, fun f hf => ?_, fun f hf => ?_, fun f hf => ?_, fun f hf => ?_⟩
  · rcases hm.1 hf with rfl | ⟨q, _⟩
    · have := h.ok e he; exact ⟨this.lo, this.ne, this.hi, this.b3, this.co⟩
    · exact h.ok f q
  · rcases hm.1 hf with rfl | ⟨q, _⟩
    · exact hn
    · exact h.ne f q
  · rcases hm.1 hf with rfl | ⟨q, _⟩
    · exact up
    · exact h.up f q
  · rcases hm.1 hf with rfl | ⟨q, _⟩
    · exact lo
    · exact h.lo f q
theorem sgs_perm_upd {s : List Es} (h : (s.map Prod.fst).Nodup) {e : Es} (he : e ∈ s) (ps : List Int) : ∃ r, (sgs s).Perm (sgE e ++ r) ∧ (sgs (updE s e.1 ps)).Perm (sgE (e.1, e.2.1, ps) ++ r) := by
  obtain ⟨a, b, rfl⟩ := List.append_of_mem he
  have hno : ∀ x, (x ∈ a ∨ x ∈ b) → x.1 ≠ e.1 := by
    intro x hx q
    rw [List.map_append, List.map_cons, List.nodup_append] at h
    obtain ⟨h1, h2, h3⟩ := h
    rw [List.nodup_cons] at h2
    rcases hx with hx | hx
    · exact h3 x.1 (List.mem_map.2 ⟨x, hx, rfl⟩) e.1 (List.mem_cons_self ..) q
    · exact h2.1 (q ▸ List.mem_map.2 ⟨x, hx, rfl⟩)
  have ua : updE a e.1 ps = a := by
    unfold updE
    conv => rhs; rw [← List.map_id a]
    exact List.map_congr_left fun x hx => by rw [if_neg (hno x (.inl hx))]; rfl
  have ub : updE b e.1 ps = b := by
    unfold updE
    conv => rhs; rw [← List.map_id b]
    exact List.map_congr_left fun x hx => by rw [if_neg (hno x (.inr hx))]; rfl
  refine ⟨sgs a ++ sgs b, ?_, ?_⟩
  · unfold sgs
    rw [List.flatMap_append, List.flatMap_cons, ← List.append_assoc, ← List.append_assoc]
    exact (List.perm_append_comm).append_right _
  · have e1 : updE (a ++ e :: b) e.1 ps = a ++ (e.1, e.2.1, ps) :: b := by
      have : updE (a ++ e :: b) e.1 ps = updE a e.1 ps ++ (e.1, e.2.1, ps) :: updE b e.1 ps := by unfold updE; rw [List.map_append, List.map_cons, if_pos rfl]
      rw [this, ua, ub]
    rw [e1]
    unfold sgs
    rw [List.flatMap_append, List.flatMap_cons, ← List.append_assoc, ← List.append_assoc]
    exact (List.perm_append_comm).append_right _
/-- Behind Add. -/
theorem add_wf {s : List Es} (h : Wf s) (g : Sg) (hb : B3 g.1) : Wf (addF s g).2 ∧ ((addF s g).1 = 0 → (sgs (addF s g).2).Perm (g :: sgs s) ∧ may g = true) ∧ ((addF s g).1 ≠ 0 → (addF s g).2 = s) := by
  unfold addF
  split
  · rename_i hm
    obtain ⟨m1, m2, m3, m4, m5, m6⟩ := may_iff.1 hm
    split
    · rename_i e hf
      have he := List.mem_of_find?_eq_some hf
      have hk : e.1 = g.1 := by have := List.find?_some hf; simpa using this
      split
      · exact ⟨h, fun q => by simp at q, fun _ => rfl⟩
      · rename_i hc
        have hx : g.2.1 ∉ e.2.2 := by simpa using hc
        split
        · rename_i hco
          rw [← hk]
          refine ⟨wf_updE h he ?_ (insP_rise (h.up e he) hx) ?_, fun _ => ⟨?_, hm⟩, fun q => by simp at q⟩
          · intro q; have := (insP_perm e.2.2 g.2.1).length_eq; rw [q] at this; simp at this
          · intro p hp
            rcases List.mem_cons.1 ((insP_perm e.2.2 g.2.1).mem_iff.1 hp) with r | r
            · omega
            · exact h.lo e he p r
          · obtain ⟨r, p1, p2⟩ := sgs_perm_upd h.nd he (insP e.2.2 g.2.1)
            refine p2.trans ?_
            have e1 : (sgE (e.1, e.2.1, insP e.2.2 g.2.1)).Perm (g :: sgE e) := by
              refine ((insP_perm e.2.2 g.2.1).map _).trans ?_
              rw [List.map_cons]
              have : ((e.1, e.2.1, insP e.2.2 g.2.1).1, g.2.1, (e.1, e.2.1, insP e.2.2 g.2.1).2.1) = g := by
                obtain ⟨a, b, c⟩ := g
                simp only at hk hco ⊢
                rw [hk, hco]
              rw [this]
              exact List.Perm.refl _
            exact (e1.append_right r).trans (List.Perm.cons g p1.symm)
        · exact ⟨h, fun q => by simp at q, fun _ => rfl⟩
    · rename_i hf
      have hno : ∀ e ∈ s, e.1 ≠ g.1 := by
        intro e he
        have := List.find?_eq_none.1 hf e he
        simpa using this
      have ho : Okk (g.1, g.2.2, [g.2.1]) := ⟨m1, m2, m3, hb, m6⟩
      refine ⟨⟨?_, fun f hf => ?_, fun f hf => ?_, fun f hf => ?_, fun f hf => ?_⟩, fun _ => ⟨?_, hm⟩, fun q => by simp at q⟩
      · rw [List.map_append, List.nodup_append]
        refine ⟨h.nd, by simp, fun a ha b hb q => ?_⟩
        obtain ⟨e, he, rfl⟩ := List.mem_map.1 ha
        simp at hb
        exact hno e he (q.trans hb)
      · rcases List.mem_append.1 hf with q | q
        · exact h.ok f q
        · rw [List.mem_singleton.1 q]; exact ho
      · rcases List.mem_append.1 hf with q | q
        · exact h.ne f q
        · rw [List.mem_singleton.1 q]; simp
      · rcases List.mem_append.1 hf with q | q
        · exact h.up f q
        · rw [List.mem_singleton.1 q]; simp
      · rcases List.mem_append.1 hf with q | q
        · exact h.lo f q
        · rw [List.mem_singleton.1 q]; intro p hp; simp at hp; omega
      · unfold sgs
        rw [List.flatMap_append]
        refine List.perm_append_comm.trans ?_
        rw [List.flatMap_cons, List.flatMap_nil, List.append_nil]
        exact List.Perm.refl _
  · exact ⟨h, fun q => by simp at q, fun _ => rfl⟩
/-- One that isn't there, with its set's core, is taken. -/
theorem add_ok {s : List Es} (h : Wf s) {g : Sg} (hm : may g = true) (hn : ∀ x ∈ sgs s, x.1 = g.1 → x.2.1 ≠ g.2.1 ∧ x.2.2 = g.2.2) : (addF s g).1 = 0 := by
  unfold addF
  rw [if_pos hm]
  split
  · rename_i e hf
    have he := List.mem_of_find?_eq_some hf
    have hk : e.1 = g.1 := by have := List.find?_some hf; simpa using this
    have h1 : ∀ p ∈ e.2.2, p ≠ g.2.1 ∧ e.2.1 = g.2.2 := fun p hp => hn (e.1, p, e.2.1) (mem_sgs.2 ⟨e, he, rfl, hp, rfl⟩) hk
    rw [if_neg (by simp; exact fun q => (h1 _ q).1 rfl)]
    obtain ⟨p, ps, hp⟩ : ∃ p ps, e.2.2 = p :: ps := by
      cases hq : e.2.2 with
      | nil => exact absurd hq (h.ne e he)
      | cons a l => exact ⟨a, l, rfl⟩
    rw [if_pos (h1 p (by rw [hp]; exact List.mem_cons_self ..)).2]
  · rfl
/-- .. and only such ones. -/
theorem add_only {s : List Es} (h : Wf s) {g : Sg} (h0 : (addF s g).1 = 0) : ∀ x ∈ sgs s, x.1 = g.1 → x.2.1 ≠ g.2.1 ∧ x.2.2 = g.2.2 := by
  intro x hx hk
  obtain ⟨e, he, h1, h2, h3⟩ := mem_sgs.1 hx
  have hf := find_in h.nd he (h1.symm.trans hk)
  unfold addF at h0
  rw [hf] at h0
  split at h0
  · simp only at h0
    split at h0
    · simp at h0
    · rename_i hc
      split at h0
      · rename_i hco
        refine ⟨fun q => hc ?_, h3.trans hco⟩
        rw [← q]
        simpa using h2
      · simp at h0
  · simp at h0
/-- Behind Remove. -/
theorem rem_wf {s : List Es} (h : Wf s) {g : Sg} (hm : may g = true) (hg : g ∈ sgs s) : (remF s g).1 = 0 ∧ Wf (remF s g).2 ∧ (g :: sgs (remF s g).2).Perm (sgs s) := by
  obtain ⟨e, he, h1, h2, h3⟩ := mem_sgs.1 hg
  have hf := find_in h.nd he h1.symm
  unfold remF
  rw [if_pos hm, hf]
  simp only
  rw [if_pos (by simp [h2, h3])]
  refine ⟨rfl, ?_⟩
  simp only
  have hd := delP_len (h.up e he) h2
  obtain ⟨r, p1, p2⟩ := sgs_perm_upd h.nd he (delP e.2.2 g.2.1)
  have e0 : (g :: sgE (e.1, e.2.1, delP e.2.2 g.2.1)).Perm (sgE e) := by
    have := (delP_perm (h.up e he) h2).map fun p => (e.1, p, e.2.1)
    rw [List.map_cons] at this
    have q : (e.1, g.2.1, e.2.1) = g := by
      obtain ⟨a, b, c⟩ := g
      simp only at h1 h3 ⊢
      rw [h1, h3]
    rw [q] at this
    exact this
  split
  · rename_i hz
    have hmem : ∀ f, f ∈ s.filter (fun x => !decide (x.1 = g.1)) → f ∈ s := fun f hf => (List.mem_filter.1 hf).1
    refine ⟨⟨h.nd.sublist ((List.filter_sublist).map _), fun f hf => h.ok f (hmem f hf), fun f hf => h.ne f (hmem f hf), fun f hf => h.up f (hmem f hf), fun f hf => h.lo f (hmem f hf)⟩, ?_⟩
    have hz2 : delP e.2.2 g.2.1 = [] := List.length_eq_zero_iff.1 hz
    -- the others are what is left of the changed state
    have e2 : sgs (updE s e.1 (delP e.2.2 g.2.1)) = sgs (s.filter fun x => !decide (x.1 = g.1)) := by
      rw [hz2]
      clear p1 p2 hd hz hmem hf hg
      have gen : ∀ l : List Es, sgs (updE l e.1 []) = sgs (l.filter fun x => !decide (x.1 = g.1)) := by
        intro l
        induction l with
        | nil => rfl
        | cons a l ih =>
          unfold sgs updE at *
          rw [List.map_cons, List.flatMap_cons, ih]
          by_cases q : a.1 = e.1
          · rw [if_pos q, List.filter_cons_of_neg (by simp [q, h1])]
            rfl
          · rw [if_neg q, List.filter_cons_of_pos (by simp [h1, q]), List.flatMap_cons]
      exact gen s
    rw [← e2]
    refine (List.Perm.cons g p2).trans ?_
    exact (e0.append_right r).trans p1.symm
  · rename_i hz
    rw [h1]
    refine ⟨wf_updE h he (fun q => hz (by rw [q]; rfl)) (delP_rise (h.up e he) _) (fun p hp => h.lo e he p ((delP_perm (h.up e he) h2).mem_iff.1 (List.mem_cons_of_mem _ hp))), ?_⟩
    refine (List.Perm.cons g p2).trans ?_
    exact (e0.append_right r).trans p1.symm
end Go.Proofs.Ytgbmigfamefenaa
