/- What was read without an error is not too deep. -/
import Derived.Test.YtpdlioidiobbbaaRgb
import Derived.Test.YtpdlioidiobbbaaPtw
namespace Go.Proofs.Ytpdlioidiobbbaa
open Go.RowKit

theorem kids_of (l : Bs) {w : World} (k : Nat) (ih : ∀ t : Fi.Tr, t.Ok w → TrIn t → ∀ p r, l.drop p = r_fil t ++ r → (skFil l k (p, 0)).2 = 0 → e_fil k t ≠ none) : ∀ (xs : List Fi.Tr) (p : Nat) (r : Bs), (∀ c ∈ xs, c.Ok w ∧ TrIn c) → l.drop p = xs.flatMap r_fil ++ r → (skN (skFil l k) xs.length (p, 0)).2 = 0 → ∀ c ∈ xs, e_fil k c ≠ none
  | [], _, _, _, _, _ => fun _ h => by cases h
  | x :: xs, p, r, ho, hd, h => by
    rw [List.flatMap_cons, List.append_assoc] at hd
    have hx := ho x (by simp)
    have h' : (skN (skFil l k) xs.length (skFil l k (p, 0))).2 = 0 := h
    have h0 : (skFil l k (p, 0)).2 = 0 := Classical.byContradiction fun hn => hn (by
      rw [skN_stay (fwd_fil l k).stay _ _ hn] at h'
      exact h')
    have hne := ih x hx.1 hx.2 p _ hd h0
    have hb := back_fil l k x hx.1 hx.2 hne p _ hd
    rw [hb] at h'
    intro c hc
    rcases List.mem_cons.1 hc with rfl | hc
    · exact hne
    · exact kids_of l k ih xs (p + (r_fil x).length) r (fun c hc => ho c (List.mem_cons_of_mem _ hc)) (drop_more hd) h' c hc
theorem fil_of (l : Bs) {w : World} (k : Nat) : ∀ (t : Fi.Tr), t.Ok w → TrIn t → ∀ p r, l.drop p = r_fil t ++ r → (skFil l k (p, 0)).2 = 0 → e_fil k t ≠ none := by
  induction k with
  | zero =>
    intro t _ _ p r _ h
    have e : skFil l 0 (p, 0) = (p, 12) := rfl
    rw [e] at h
    cases h
  | succ k ih =>
    intro t ho hi p r hd h
    obtain ⟨i1, i2, i3, i4, i5, i6⟩ := hi.out
    have c2 := (back_i l t.lo i3).comp (back_i l t.hi i4)
    have c3 := (back_txt l t.ts (lst_inu (rds_lst ho.rt)) i5).comp c2
    have c4 := (back_i l t.d i2).comp c3
    have c5 := (back_i l t.k i1).comp c4
    obtain ⟨A, hA⟩ : ∃ A, A = ei t.k ++ (ei t.d ++ (r_txt t.ts ++ (ei t.lo ++ ei t.hi))) := ⟨_, rfl⟩
    rw [← hA] at c5
    have hd2 : l.drop p = A ++ ((Num.uv t.ks.length ++ t.ks.flatMap r_fil) ++ r) := by
      rw [hd, r_fil_eq, hA]
      simp only [List.append_assoc]
    have h1 := c5 p _ hd2
    have h2 : (skL l (skFil l k) (skU l (skU l (skTxt l (skU l (skU l (p, 0))))))).2 = 0 := h
    have h1' : skU l (skU l (skTxt l (skU l (skU l (p, 0))))) = (p + A.length, 0) := h1
    rw [h1'] at h2
    have hd3 := drop_more hd2
    rw [List.append_assoc] at hd3
    have hl := flat_le r_fil t.ks fun c _ => fil_pos c
    have hc := cS_write l (t.ks.flatMap r_fil ++ r) (p + A.length) t.ks.length hd3 (lst_inu (tr_lst ho)) (by rw [List.length_append]; exact Nat.le_trans hl (Nat.le_add_right _ _))
    unfold skL at h2
    simp only [hc] at h2
    have hk := kids_of l k ih t.ks _ r (fun c hc => ⟨ho.kid c hc, i6 c hc⟩) (drop_more hd3) h2
    rw [e_fil_succ, e_txt_some, el_some (e_fil k) r_fil t.ks fun c hc => e_fil_some k c (hk c hc)]
    simp [cat, e_int]
theorem code_zero {l : Bs} (h : gcode l = 0) : (skMsg l (0, 0)).2 = 0 ∧ l.length ≤ (skMsg l (0, 0)).1 := by
  unfold gcode at h
  obtain ⟨s, hs⟩ : ∃ s, s = skMsg l (0, 0) := ⟨_, rfl⟩
  rw [← hs] at h ⊢
  unfold en at h
  by_cases he : s.2 = 0
  · refine ⟨he, ?_⟩
    rw [if_neg (by rw [he]; decide)] at h
    by_cases hp : s.1 < l.length
    · rw [if_pos hp] at h; cases h
    · omega
  · rw [if_pos he] at h
    exact absurd h he
theorem fwd_rest (l : Bs) : Fwd l (fun s => skL l (skGrp l) (skL l (skSeg l) (skU l (skSeg l (skB l (skSpan l (skSeg l (skU l (skU l (skL l (skAgg l) (skL l (skL l (skU l)) (skU l s)))))))))))) := by
  have h := (((((((((((fwd_u l).comp (fwd_l (fwd_l (fwd_u l)))).comp (fwd_l (fwd_agg l))).comp (fwd_u l)).comp (fwd_u l)).comp (fwd_seg l)).comp (fwd_span l)).comp (fwd_b l)).comp (fwd_seg l)).comp (fwd_u l)).comp (fwd_l (fwd_seg l))).comp (fwd_l (fwd_grp l))
  exact h
/-- A message that was read isn't too deep. -/
theorem msg_fil {l : Bs} {w : World} (m : Mm) (h : m.Ok w) (hl : r_msg m = l) (hc : gcode l = 0) : e_fil 20 m.q.t ≠ none := by
  have hz := (code_zero hc).1
  have hh : Back l (skHead l) (ei m.kind ++ (ei m.frm ++ (ei m.to ++ (Num.uv m.id ++ (Num.uv m.ask ++ (Num.uv m.off ++ (ei m.term ++ (Num.uv m.cnt ++ ei m.code)))))))) := by
    have c1 := (back_u l m.cnt h.cnt).comp (back_i l m.code h.code)
    have c2 := (back_i l m.term h.term).comp c1
    have c3 := (back_u l m.off h.off).comp c2
    have c4 := (back_u l m.ask h.ask).comp c3
    have c5 := (back_u l m.id h.id).comp c4
    have c6 := (back_i l m.to h.to).comp c5
    have c7 := (back_i l m.frm h.frm).comp c6
    have c8 := (back_i l m.kind h.kind).comp c7
    exact c8
  have hf : Back l (skFact l) (ei m.ft ++ (r_txt m.fds ++ (Num.uv m.fms.length ++ m.fms.flatMap ei))) := by
    have c1 := back_l l (skU l) ei m.fms (lst_inu h.fm) (fun k _ => ei_pos k) fun k hk => back_i l k (h.fmz k hk)
    have c2 := (back_txt l m.fds (lst_inu h.fd) h.fdt).comp c1
    have c3 := (back_i l m.ft h.ft).comp c2
    exact c3
  have c := (hh.comp hf).comp (back_span l m.q.F m.q.T h.q.f h.q.e)
  obtain ⟨A, hA⟩ : ∃ A, A = ((ei m.kind ++ (ei m.frm ++ (ei m.to ++ (Num.uv m.id ++ (Num.uv m.ask ++ (Num.uv m.off ++ (ei m.term ++ (Num.uv m.cnt ++ ei m.code)))))))) ++ (ei m.ft ++ (r_txt m.fds ++ (Num.uv m.fms.length ++ m.fms.flatMap ei)))) ++ r_span m.q.F m.q.T := ⟨_, rfl⟩
  rw [← hA] at c
  obtain ⟨X, hX⟩ : ∃ X, l = A ++ (r_fil m.q.t ++ X) := by
    refine ⟨ei m.q.g ++ (Num.uv m.q.ss.length ++ (m.q.ss.flatMap r_set ++ (Num.uv m.q.ag.length ++ (m.q.ag.flatMap r_agg ++ (ei m.q.G ++ (ei m.q.R ++ (r_seg m.ps ++ (r_span m.pF m.pT ++ (eb m.od ++ (r_seg m.os ++ (ei m.on ++ (Num.uv m.sg.length ++ (m.sg.flatMap r_seg ++ (Num.uv m.gp.length ++ m.gp.flatMap r_grp)))))))))))))), ?_⟩
    rw [← hl, hA]
    simp only [r_msg, r_query, List.append_assoc]
  have hd : l.drop 0 = A ++ (r_fil m.q.t ++ X) := by rw [List.drop_zero]; exact hX
  have h1 := c 0 _ hd
  have h1' : skSpan l (skFact l (skHead l (0, 0))) = (0 + A.length, 0) := h1
  have hz2 : (skL l (skGrp l) (skL l (skSeg l) (skU l (skSeg l (skB l (skSpan l (skSeg l (skU l (skU l (skL l (skAgg l) (skL l (skL l (skU l)) (skU l (skFil l 20 (skSpan l (skFact l (skHead l (0, 0))))))))))))))))).2 = 0 := by
    unfold skMsg skQuery at hz
    exact hz
  rw [h1'] at hz2
  obtain ⟨k, hk⟩ : ∃ k, k = 20 := ⟨_, rfl⟩
  rw [← hk] at hz2 ⊢
  refine fil_of l k m.q.t h.q.t h.q.i _ X (drop_more hd) ?_
  refine Classical.byContradiction fun hn => hn ?_
  have hs := (fwd_rest l).stay (skFil l k (0 + A.length, 0)) hn
  have hs' := congrArg Prod.snd hs
  exact hs'.symm.trans hz2
end Go.Proofs.Ytpdlioidiobbbaa
