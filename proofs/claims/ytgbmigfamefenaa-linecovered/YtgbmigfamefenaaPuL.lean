/- What the laws ask of a timeline's answers, said purely. No walk stands here. -/
import Derived.Test.YtgbmigfamefenaaMad
namespace Go.Proofs.Ytgbmigfamefenaa
open Go.Shelf Go.RowKit Go.Maps Go.Sort
set_option linter.unusedVariables false

theorem hasB_iff {l : List Sg} {k : K3} {p : Int} : hasB l k p = true ↔ ∃ x ∈ l, x.1 = k ∧ x.2.1 = p := by
  unfold hasB
  rw [List.any_eq_true]
  refine exists_congr fun x => and_congr_right fun _ => ?_
  rw [Bool.and_eq_true, decide_eq_true_eq, decide_eq_true_eq]
/-- A segment of a state: its set is complete, just if all first parts are there. -/
theorem wh_iff {s : List Es} {l : List Sg} (hs : Wf s) (hp : (sgs s).Perm l) {g : Sg} (hg : g ∈ l) : whB l g = true ↔ g.1 ∈ CK s := by
  obtain ⟨e, he, h1, h2, h3⟩ := mem_sgs.1 (hp.mem_iff.2 hg)
  have hco := (hs.ok e he).co
  have hmem : ∀ p : Int, (∃ x ∈ l, x.1 = g.1 ∧ x.2.1 = p) ↔ p ∈ e.2.2 := by
    intro p
    constructor
    · rintro ⟨x, hx, q1, rfl⟩
      obtain ⟨f, hf, r1, r2, r3⟩ := mem_sgs.1 (hp.mem_iff.2 hx)
      rw [key_once hs.nd he hf (h1.symm.trans (q1.symm.trans r1))]
      exact r2
    · intro q
      exact ⟨(e.1, p, e.2.1), hp.mem_iff.1 (mem_sgs.2 ⟨e, he, rfl, q, rfl⟩), h1.symm, rfl⟩
  rw [mem_CK]
  constructor
  · intro h
    refine ⟨e, he, h1.symm, (cmpl_iff hco (hs.up e he) (hs.lo e he)).2 fun q q1 q2 => ?_⟩
    unfold whB at h
    rw [List.all_eq_true] at h
    have := h q.toNat (List.mem_range.2 (by omega))
    rw [hasB_iff, hmem] at this
    rw [show ((q.toNat : Nat) : Int) = q by omega] at this
    exact this
  · rintro ⟨f, hf, q1, q2⟩
    rw [key_once hs.nd hf he (q1.trans h1)] at q2
    have hc := (cmpl_iff hco (hs.up e he) (hs.lo e he)).1 q2
    unfold whB
    rw [List.all_eq_true]
    intro q hq
    rw [hasB_iff, hmem]
    exact hc q (by omega) (by have := List.mem_range.1 hq; omega)
/-- A complete set has a segment. -/
theorem ck_seg {s : List Es} {l : List Sg} (hs : Wf s) (hp : (sgs s).Perm l) {k : K3} (hk : k ∈ CK s) : ∃ g ∈ l, g.1 = k ∧ whB l g = true := by
  obtain ⟨e, he, rfl, hc⟩ := mem_CK.1 hk
  obtain ⟨p, ps, q⟩ : ∃ p ps, e.2.2 = p :: ps := by
    cases hq : e.2.2 with
    | nil => exact absurd hq (hs.ne e he)
    | cons a l => exact ⟨a, l, rfl⟩
  have hm : (e.1, p, e.2.1) ∈ l := hp.mem_iff.1 (mem_sgs.2 ⟨e, he, rfl, by rw [q]; exact List.mem_cons_self .., rfl⟩)
  exact ⟨_, hm, rfl, (wh_iff hs hp hm).2 hk⟩
theorem sgsOf_pos {s : List Es} (hs : Wf s) {k : K3} (hk : k ∈ CK s) : 0 < (sgsOf s k).length := by
  obtain ⟨e, he, rfl, _⟩ := mem_CK.1 hk
  rw [sgsOf_in hs.nd he]
  unfold sgE
  rw [List.length_map]
  exact List.length_pos_iff.2 (hs.ne e he)
/-- Of one time at most one stretch is told. -/
theorem one_cut {C : List K3} {o : List S3} {a : Int} (h : Cut C o a (a + 1)) : o = [] ∨ ∃ t, o = [t] ∧ t.2.1 = a ∧ t.2.2 = a + 1 ∧ Bst C a t.1 := by
  match o, h with
  | [], _ => exact .inl rfl
  | [t], h =>
    have h1 := h.ne t (List.mem_cons_self ..)
    have h2 := h.wi t (List.mem_cons_self ..)
    have h3 := h.is t (List.mem_cons_self ..) a (by omega) (by omega)
    exact .inr ⟨t, rfl, by omega, by omega, h3⟩
  | t :: u :: o, h =>
    exfalso
    have h1 := h.ne t (List.mem_cons_self ..)
    have h2 := h.wi t (List.mem_cons_self ..)
    have h3 := h.ne u (List.mem_cons_of_mem _ (List.mem_cons_self ..))
    have h4 := h.wi u (List.mem_cons_of_mem _ (List.mem_cons_self ..))
    have h5 := (List.pairwise_cons.1 h.ch).1 u (List.mem_cons_self ..)
    omega
theorem lkF_one (s : List Es) (t : S3) : lkF s [t] = pcs s t := by simp [lkF]
/-- How many segments of a set there are. -/
theorem count_key {s : List Es} (h : (s.map Prod.fst).Nodup) (k : K3) : (sgs s).countP (fun g => decide (g.1 = k)) = (sgsOf s k).length := by
  by_cases hin : ∃ e ∈ s, e.1 = k
  · obtain ⟨e, he, rfl⟩ := hin
    rw [sgsOf_in h he]
    obtain ⟨a, b, rfl⟩ := List.append_of_mem he
    have hno : ∀ x, (x ∈ a ∨ x ∈ b) → x.1 ≠ e.1 := by
      intro x hx q
      rw [List.map_append, List.map_cons, List.nodup_append] at h
      obtain ⟨h1, h2, h3⟩ := h
      rw [List.nodup_cons] at h2
      rcases hx with hx | hx
      · exact h3 x.1 (List.mem_map.2 ⟨x, hx, rfl⟩) e.1 (List.mem_cons_self ..) q
      · exact h2.1 (q ▸ List.mem_map.2 ⟨x, hx, rfl⟩)
    have zero : ∀ l : List Es, (∀ x ∈ l, x.1 ≠ e.1) → (sgs l).countP (fun g => decide (g.1 = e.1)) = 0 := by
      intro l hl
      rw [List.countP_eq_zero]
      intro g hg
      obtain ⟨f, hf, q, _⟩ := mem_sgs.1 hg
      rw [decide_eq_true_eq, q]
      exact hl f hf
    have hsplit : sgs (a ++ e :: b) = sgs a ++ (sgE e ++ sgs b) := by unfold sgs; rw [List.flatMap_append, List.flatMap_cons]
    rw [hsplit, List.countP_append, List.countP_append, zero a fun x hx => hno x (.inl hx), zero b fun x hx => hno x (.inr hx), Nat.zero_add, Nat.add_zero, List.countP_eq_length]
    intro g hg
    rw [decide_eq_true_eq]
    exact (mem_sgE.1 hg).1
  · rw [sgsOf_out fun e he q => hin ⟨e, he, q⟩, List.length_nil, List.countP_eq_zero]
    intro g hg
    obtain ⟨e, he, q, _⟩ := mem_sgs.1 hg
    rw [decide_eq_true_eq, q]
    exact fun r => hin ⟨e, he, r⟩
/-- LineAll's two answers. -/
def hdB (l : List Sg) (T : Int) (x : Sg) : Bool := decide (x.1.1 ≤ T) && (decide (T < x.1.2.1) && whB l x)
theorem all_say {s : List Es} {l : List Sg} (hs : Wf s) (hp : (sgs s).Perm l) {T : Int} {out : List S3} (h : Say (keysF (pC T (T + 1) s) s) out 1099511627776) :
    l.any (hdB l T) = decide (0 < (lkF s (cutS T (T + 1) out)).length) ∧ ∀ p0, (lkF s (cutS T (T + 1) out))[0]? = some p0 → l.countP (fun g => decide (g.1 = p0.1.1)) = (lkF s (cutS T (T + 1) out)).length := by
  have hc := cut_of hs h
  obtain ⟨o, ho⟩ : ∃ o, o = cutS T (T + 1) out := ⟨_, rfl⟩
  rw [← ho] at hc ⊢
  rcases one_cut hc with rfl | ⟨t, rfl, h1, h2, h3⟩
  · refine ⟨?_, fun p0 q => by simp [lkF] at q⟩
    simp only [lkF, List.flatMap_nil, List.length_nil, Nat.lt_irrefl, decide_false]
    rw [List.any_eq_false]
    intro x hx hh
    unfold hdB at hh
    rw [Bool.and_eq_true, Bool.and_eq_true, decide_eq_true_eq, decide_eq_true_eq, wh_iff hs hp hx] at hh
    obtain ⟨u, hu, _⟩ := hc.all T (Int.le_refl _) (by omega) ⟨x.1, hh.2.2, hh.1, hh.2.1⟩
    cases hu
  · have hpos := sgsOf_pos hs h3.mem
    rw [lkF_one]
    have hlen : (pcs s t).length = (sgsOf s t.1).length := by unfold pcs; rw [List.length_map]
    constructor
    · rw [hlen, decide_eq_true hpos, List.any_eq_true]
      obtain ⟨g, hg, q1, q2⟩ := ck_seg hs hp h3.mem
      refine ⟨g, hg, ?_⟩
      unfold hdB
      rw [Bool.and_eq_true, Bool.and_eq_true, decide_eq_true_eq, decide_eq_true_eq, q1]
      exact ⟨h3.hl.1, h3.hl.2, q2⟩
    · intro p0 q
      have hm := List.mem_of_getElem? q
      unfold pcs at hm
      obtain ⟨g, hg, rfl⟩ := List.mem_map.1 hm
      have hgk : g.1 = t.1 := ((mem_sgsOf hs.nd).1 hg).2
      rw [hlen]
      simp only [hgk]
      rw [← count_key hs.nd t.1]
      exact (hp.countP_eq _).symm
end Go.Proofs.Ytgbmigfamefenaa
