/- Drafts are taken away, and nothing else: what is said without a walk; a disk and two rows of texts. -/
import Derived.Test.YthegdhbmfojdaaaApM
import Derived.Laws.Cover1
namespace Go.Proofs.Ythegdhbmfojdaaa
open Go.RowKit Go.Maps Go.Sort
set_option linter.unusedVariables false

/-- A disk of these files, on which no cut is to come. -/
def cS (E : List Fl) (n : Nat) : St := ⟨E, n, false, false, 0, 0⟩
def isT (t : Str) : Bool := Lib.hasPrefix t [116, 46]
/-- The names that are no drafts'. -/
def nonT (E : List Fl) : List Str := (E.map Fl.nm).filter fun t => !(isT t)
structure ClI (E : List Fl) (M : Nat) : Prop where
  nd : E.Pairwise fun a b => a.nm ≠ b.nm
  nm : ∀ f ∈ E, isNm f.nm = true
  few : E.length ≤ M
theorem hasF_mem (E : List Fl) (t : Str) : hasF E t = decide (t ∈ E.map Fl.nm) := by
  cases h : hasF E t with
  | true =>
    unfold hasF at h
    rw [List.any_eq_true] at h
    obtain ⟨f, hf, e⟩ := h
    exact (decide_eq_true (List.mem_map.2 ⟨f, hf, by simpa using e⟩)).symm
  | false =>
    refine (decide_eq_false fun hm => ?_).symm
    obtain ⟨f, hf, e⟩ := List.mem_map.1 hm
    unfold hasF at h
    rw [List.any_eq_false] at h
    exact h f hf (by simpa using e)
theorem cS_count (E : List Fl) (n : Nat) : (cS E n).count = (0, cS E (n + 1)) := by
  unfold St.count cS
  rw [if_neg (by simp)]
  rfl
theorem addF_nm (E : List Fl) (t b : Str) : (addF E t b).map Fl.nm = E.map Fl.nm := by
  unfold addF
  rw [List.map_map]
  refine List.map_congr_left fun f _ => ?_
  show (if f.nm = t then (⟨f.nm, f.bs ++ b, f.sy⟩ : Fl) else f).nm = f.nm
  split <;> rfl
theorem opnF_nm (E : List Fl) (t : Str) : (opnF E t).map Fl.nm = if hasF E t then E.map Fl.nm else E.map Fl.nm ++ [t] := by
  unfold opnF
  split
  · rfl
  · simp
/-- What Append does here. -/
inductive ClS (E : List Fl) (n : Nat) (t b : Str) : Nat × St → Prop
  | no : ClS E n t b (1, cS E n)
  | old (E' : List Fl) (h : hasF E t = true) (he : E'.map Fl.nm = E.map Fl.nm) : ClS E n t b (0, cS E' (n + 1))
  | new (E' : List Fl) (h : hasF E t = false) (he : E'.map Fl.nm = E.map Fl.nm ++ [t]) (hn : isNm t = true) : ClS E n t b (0, cS E' (n + 1))
theorem cl_app (E : List Fl) (n : Nat) (t b : Str) (hf : E.length < 1000) : ClS E n t b ((cS E n).append t b) := by
  unfold St.append
  cases hn : isNm t with
  | false =>
    have h1 : rfC (cS E n) [t] = 1 := by unfold rfC cS; simp [hn]
    rw [h1, if_pos (by simp)]
    exact .no
  | true =>
    have h1 : rfC (cS E n) [t] = 0 := by unfold rfC cS; simp [hn]
    rw [h1, if_neg (by simp), if_neg (by show ¬ (hasF E t = false ∧ 1000 ≤ E.length); omega)]
    show ClS E n t b (St.count (cS (addF (opnF E t) t b) n))
    rw [cS_count]
    cases hh : hasF E t with
    | true => exact .old _ hh (by rw [addF_nm, opnF_nm, hh]; rfl)
    | false => exact .new _ hh (by rw [addF_nm, opnF_nm, hh]; rfl) hn
theorem nd_of_nm {E : List Fl} : (E.Pairwise fun a b => a.nm ≠ b.nm) ↔ (E.map Fl.nm).Pairwise (· ≠ ·) := by
  rw [List.pairwise_map]
theorem ClI.old {E E' : List Fl} {M : Nat} (h : ClI E M) (he : E'.map Fl.nm = E.map Fl.nm) : ClI E' M := by
  refine ⟨nd_of_nm.2 (by rw [he]; exact nd_of_nm.1 h.nd), fun f hf => ?_, ?_⟩
  · have : f.nm ∈ E.map Fl.nm := by rw [← he]; exact List.mem_map.2 ⟨f, hf, rfl⟩
    obtain ⟨g, hg, e⟩ := List.mem_map.1 this
    rw [← e]
    exact h.nm g hg
  · have := congrArg List.length he
    rw [List.length_map, List.length_map] at this
    rw [this]
    exact h.few
theorem ClI.new {E E' : List Fl} {M : Nat} {t : Str} (h : ClI E M) (hh : hasF E t = false) (he : E'.map Fl.nm = E.map Fl.nm ++ [t]) (hn : isNm t = true) : ClI E' (M + 1) := by
  rw [hasF_mem] at hh
  have hh := of_decide_eq_false hh
  refine ⟨nd_of_nm.2 ?_, fun f hf => ?_, ?_⟩
  · rw [he, List.pairwise_append]
    refine ⟨nd_of_nm.1 h.nd, by simp, fun a ha b hb => ?_⟩
    simp only [List.mem_singleton] at hb
    subst hb
    exact fun e => hh (e ▸ ha)
  · have : f.nm ∈ E.map Fl.nm ++ [t] := by rw [← he]; exact List.mem_map.2 ⟨f, hf, rfl⟩
    rcases List.mem_append.1 this with q | q
    · obtain ⟨g, hg, e⟩ := List.mem_map.1 q
      rw [← e]
      exact h.nm g hg
    · simp only [List.mem_singleton] at q
      rw [q]
      exact hn
  · have := congrArg List.length he
    rw [List.length_map, List.length_append, List.length_map] at this
    have := h.few
    simp at *
    omega
theorem nonT_old {E E' : List Fl} (he : E'.map Fl.nm = E.map Fl.nm) : nonT E' = nonT E := by unfold nonT; rw [he]
theorem nonT_new {E E' : List Fl} {t : Str} (he : E'.map Fl.nm = E.map Fl.nm ++ [t]) : nonT E' = if isT t then nonT E else nonT E ++ [t] := by
  unfold nonT
  rw [he, List.filter_append]
  cases h : isT t <;> simp [h]
theorem nonT_has {E : List Fl} {t : Str} (ht : isT t = false) : decide (t ∈ nonT E) = hasF E t := by
  rw [hasF_mem]
  unfold nonT
  have : t ∈ (E.map Fl.nm).filter (fun t => !(isT t)) ↔ t ∈ E.map Fl.nm := by rw [List.mem_filter]; simp [ht]
  exact decide_eq_decide.2 this
theorem nonT_len {E : List Fl} {M : Nat} (h : ClI E M) : (nonT E).length ≤ M := by
  unfold nonT
  exact Nat.le_trans (List.length_filter_le _ _) (by rw [List.length_map]; exact h.few)
theorem nonT_in {E : List Fl} {t : Str} (h : t ∈ nonT E) : hasF E t = true ∧ isT t = false := by
  unfold nonT at h
  rw [List.mem_filter] at h
  refine ⟨by rw [hasF_mem]; exact decide_eq_true h.1, by simpa using h.2⟩
theorem cl_read {E : List Fl} {n M : Nat} (h : ClI E M) {t : Str} (ht : hasF E t = true) : rfF (cS E n) t [] = 0 ∧ rdC (cS E n) t = bytF E t := by
  have hm := ht
  rw [hasF_mem] at hm
  obtain ⟨f, hf, e⟩ := List.mem_map.1 (of_decide_eq_true hm)
  have h1 : rfF (cS E n) t [] = 0 := by
    have : rfC (cS E n) ([] ++ [t]) = 0 := by unfold rfC cS; simp [← e, h.nm f hf]
    unfold rfF
    rw [this, if_neg (by simp)]
    show (if hasF E t = true then 0 else 120) = 0
    rw [ht]
    rfl
  refine ⟨h1, ?_⟩
  unfold rdC
  rw [if_pos h1]
  rfl
/-- Files are removed one by one. -/
theorem cl_rm {M : Nat} : ∀ (ts : List Str) (E : List Fl) (n : Nat), ClI E M → ts.Nodup → (∀ t ∈ ts, hasF E t = true) → rmA ts (cS E n) = (0, cS (E.filter fun f => !(decide (f.nm ∈ ts))) (n + ts.length)) := by
  intro ts
  induction ts with
  | nil =>
    intro E n h _ _
    unfold rmA
    have : (E.filter fun f => !(decide (f.nm ∈ ([] : List Str)))) = E := by rw [List.filter_eq_self]; intro f _; simp
    rw [this]
    rfl
  | cons t ts ih =>
    intro E n h hnd hin
    have ht := hin t (List.mem_cons_self ..)
    have h1 : (cS E n).remove t = (0, cS (delF E t) (n + 1)) := by
      unfold St.remove St.begins
      rw [(cl_read (n := n) h ht).1]
      simp only [ne_eq, not_true_eq_false, if_false, cS_count]
      rfl
    have hd : ClI (delF E t) M := ⟨h.nd.filter _, fun f hf => h.nm f (List.mem_filter.1 hf).1, Nat.le_trans (List.length_filter_le _ _) h.few⟩
    obtain ⟨n1, n2⟩ := List.nodup_cons.1 hnd
    have hin2 : ∀ u ∈ ts, hasF (delF E t) u = true := fun u hu => by
      have := hin u (List.mem_cons_of_mem _ hu)
      unfold hasF at this ⊢
      rw [List.any_eq_true] at this ⊢
      obtain ⟨f, hf, e⟩ := this
      refine ⟨f, ?_, e⟩
      unfold delF
      rw [List.mem_filter]
      refine ⟨hf, ?_⟩
      have e' : f.nm = u := by simpa using e
      have : ¬ f.nm = t := fun q => n1 (by rw [← q, e']; exact hu)
      simpa using this
    unfold rmA
    rw [h1]
    simp only [ne_eq, not_true_eq_false, if_false]
    rw [ih (delF E t) (n + 1) hd n2 hin2]
    have : ((delF E t).filter fun f => !(decide (f.nm ∈ ts))) = E.filter fun f => !(decide (f.nm ∈ t :: ts)) := by
      unfold delF
      rw [List.filter_filter]
      refine List.filter_congr fun f _ => ?_
      by_cases q : f.nm = t
      · simp [q]
      · simp [q]
    rw [this]
    simp only [List.length_cons]
    rw [show n + 1 + ts.length = n + (ts.length + 1) by omega]
/-- What is left. -/
def lefF (E : List Fl) : List Fl := E.filter fun f => !(isT f.nm)
theorem cl_open {E : List Fl} {n M : Nat} (h : ClI E M) : ∃ k, k ≤ M ∧ bopen (cS E n) = (0, cS (lefF E) (n + k)) := by
  have hl : lstN (cS E n) [116, 46] = srt (preN E [116, 46]) := rfl
  have hp : (srt (preN E [116, 46])).Perm (preN E [116, 46]) := List.mergeSort_perm _ _
  have hmem : ∀ t, t ∈ srt (preN E [116, 46]) ↔ ∃ f ∈ E, f.nm = t ∧ isT t = true := fun t => by
    rw [hp.mem_iff]
    unfold preN
    rw [List.mem_map]
    constructor
    · rintro ⟨f, hf, rfl⟩
      exact ⟨f, (List.mem_filter.1 hf).1, rfl, (List.mem_filter.1 hf).2⟩
    · rintro ⟨f, hf, rfl, q⟩
      exact ⟨f, List.mem_filter.2 ⟨hf, q⟩, rfl⟩
  have hnd : (srt (preN E [116, 46])).Nodup := by
    rw [hp.nodup_iff]
    unfold preN
    have := (nd_of_nm.1 (h.nd.filter (fun f : Fl => Lib.hasPrefix f.nm [116, 46])))
    exact this
  refine ⟨(srt (preN E [116, 46])).length, ?_, ?_⟩
  · rw [hp.length_eq]
    unfold preN
    rw [List.length_map]
    exact Nat.le_trans (List.length_filter_le _ _) h.few
  · unfold bopen
    rw [hl]
    show rmA _ _ = _
    rw [cl_rm _ E n h hnd fun t ht => by
      obtain ⟨f, hf, e, _⟩ := (hmem t).1 ht
      rw [hasF_mem]
      exact decide_eq_true (List.mem_map.2 ⟨f, hf, e⟩)]
    have : (E.filter fun f => !(decide (f.nm ∈ srt (preN E [116, 46])))) = lefF E := by
      unfold lefF
      refine List.filter_congr fun f hf => ?_
      cases q : isT f.nm with
      | true => rw [decide_eq_true ((hmem _).2 ⟨f, hf, rfl, q⟩)]
      | false => rw [decide_eq_false fun hm => by obtain ⟨_, _, _, e⟩ := (hmem _).1 hm; rw [q] at e; cases e]
    rw [this]
theorem lefF_I {E : List Fl} {M : Nat} (h : ClI E M) : ClI (lefF E) M := ⟨h.nd.filter _, fun f hf => h.nm f (List.mem_filter.1 hf).1, Nat.le_trans (List.length_filter_le _ _) h.few⟩
theorem lefF_nm (E : List Fl) : (lefF E).map Fl.nm = nonT E := by
  unfold lefF nonT
  rw [List.filter_map]
  rfl
theorem lefF_byt {E : List Fl} {t : Str} (ht : isT t = false) : bytF (lefF E) t = bytF E t := by
  unfold bytF gotF lefF
  rw [List.filter_filter]
  have : (E.filter fun f => (f.nm == t && !(isT f.nm))) = E.filter fun f => f.nm == t := by
    refine List.filter_congr fun f _ => ?_
    by_cases q : f.nm = t
    · simp [q, ht]
    · simp [q]
  rw [this]
theorem lefF_has {E : List Fl} {t : Str} (h : t ∈ nonT E) : hasF (lefF E) t = true := by
  rw [hasF_mem, lefF_nm]
  exact decide_eq_true h
theorem cl_lists {E : List Fl} {n : Nat} : lstN (cS (lefF E) n) [116, 46] = [] ∧ (lstN (cS (lefF E) n) []).length = (nonT E).length := by
  constructor
  · have : preN (lefF E) [116, 46] = [] := by
      unfold preN lefF
      rw [List.filter_filter, List.filter_eq_nil_iff.2]
      · rfl
      · intro f _
        show ¬ (isT f.nm && !(isT f.nm)) = true
        cases isT f.nm <;> simp
    show srt (preN (lefF E) [116, 46]) = []
    rw [this]
    simp [srt]
  · show (srt (preN (lefF E) [])).length = _
    have : preN (lefF E) [] = (lefF E).map Fl.nm := by
      unfold preN
      rw [List.filter_eq_self.2]
      intro f _
      simp [Lib.hasPrefix]
    rw [this, lefF_nm]
    simp [srt]
theorem byt_le {E : List Fl} {t : Str} {N : Nat} (h : ∀ f ∈ E, f.bs.length ≤ N) : (bytF E t).length ≤ N := by
  unfold bytF
  cases hg : gotF E t with
  | nil => simp
  | cons f r =>
    have : f ∈ gotF E t := by rw [hg]; exact List.mem_cons_self ..
    simpa using h f (List.mem_filter.1 this).1
theorem pre_yes {s t : Str} (h : Lib.hasPrefix t s = true) : s.length ≤ t.length ∧ t.take s.length = s := by
  unfold Lib.hasPrefix at h
  rw [List.isPrefixOf_iff_prefix] at h
  exact ⟨h.length_le, (List.prefix_iff_eq_take.1 h).symm⟩
theorem pre_no {s t : Str} (h : Lib.hasPrefix t s = false) : t.take s.length ≠ s := fun e => by
  have : Lib.hasPrefix t s = true := by
    unfold Lib.hasPrefix
    rw [List.isPrefixOf_iff_prefix]
    exact List.prefix_iff_eq_take.2 e.symm
  rw [h] at this
  cases this
theorem str_take (t : Str) (k : Nat) : (⟨t.toArray⟩ : ByteArray).extract 0 k = ⟨(t.take k).toArray⟩ := by
  apply ByteArray.ext
  apply Array.ext'
  rw [Lib.extract_data]
  simp
set_option maxHeartbeats 800000 in
theorem refbegins_any (w : World) (t p : Str) (ht : t.length ≤ maxLen) (hp : p.length ≤ maxLen) : Calls Try.prog 28 #[.string ⟨t.toArray⟩, .string ⟨p.toArray⟩] w fun e w' => e = .returned (.bool (Lib.hasPrefix t p)) ∧ w' = w := by
  unfold maxLen at ht hp
  have hst := str_size t
  have hsp := str_size p
  have st := str_take t p.length
  by_cases hb : Lib.hasPrefix t p = true
  · obtain ⟨p1, p2⟩ := pre_yes hb
    have p1z : (p.length : Int) ≤ (t.length : Int) := by omega
    rw [p2] at st
    rw [hb]
    clear hb p2
    go_enter Try.func28, Try.ntmps28
    go_wp2_with fail
    go_ret
    exact ⟨rfl, rfl⟩
  · have hb : Lib.hasPrefix t p = false := by simpa using hb
    have hne := pre_no hb
    rw [hb]
    by_cases p1 : p.length ≤ t.length
    · have p1z : (p.length : Int) ≤ (t.length : Int) := by omega
      generalize t.take p.length = t' at *
      have he2 : (t' == p) = false := by simpa using hne
      clear hb hne
      go_enter Try.func28, Try.ntmps28
      go_wp2_with fail
      go_ret
      exact ⟨rfl, rfl⟩
    · have p1z : ¬ (p.length : Int) ≤ (t.length : Int) := by omega
      clear hb hne st
      go_enter Try.func28, Try.ntmps28
      go_wp2_with fail
      go_ret
      exact ⟨rfl, rfl⟩
set_option maxHeartbeats 400000 in
theorem open_nil (w : World) : Calls Try.prog 12 #[.pointer none] w fun e w' => e = .returned (.tuple #[.pointer none, .int .i64 1]) ∧ w' = w := by
  go_enter Try.func12, Try.ntmps12
  go_wp2_with fail
  go_ret2
  exact ⟨rfl, rfl⟩
/-- The disk, and the two rows of texts. -/
structure Cl (w0 w : World) (d : Nat) (F : Nat → Prop) (N : Nat) (s : St) (A B : List Str) (x y : Value) : Prop where
  dk : Dk w d F N s
  F0 : ∀ i, F i → w0.heap.size ≤ i
  bel : Below w0.heap.size w0 w
  a : w.ownsRow w0.heap.size 9 1 x A.length (sv A)
  b : w.ownsRow w0.heap.size 9 1 y B.length (sv B)
  fa : ∀ r, x.ownBlock = some r → ¬ F r
  fb : ∀ r, y.ownBlock = some r → ¬ F r
  ab : ∀ r, x.ownBlock = some r → y.ownBlock ≠ some r
theorem Cl.below {w0 w w' : World} {d N : Nat} {F : Nat → Prop} {s : St} {A B : List Str} {x y : Value} (h : Cl w0 w d F N s A B x y) (hb : Below w.heap.size w w') : Cl w0 w' d F N s A B x y :=
  ⟨h.dk.below hb, h.F0, h.bel.trans (hb.mono h.bel.size), row_block h.a fun r hr => hb.block r (own_lt h.a r hr).2, row_block h.b fun r hr => hb.block r (own_lt h.b r hr).2, h.fa, h.fb, h.ab⟩
theorem Cl.mv {w0 w w' : World} {d N N' : Nat} {F F' : Nat → Prop} {s s' : St} {A B : List Str} {x y : Value} (h : Cl w0 w d F N s A B x y) (hd : Dk w' d F' N' s') (hF' : ∀ i, F' i → F i ∨ w.heap.size ≤ i) (fr : Fr F w w') : Cl w0 w' d F' N' s' A B x y := by
  have hs := h.bel.size
  refine ⟨hd, fun i hi => (hF' i hi).elim (h.F0 i) fun q => by omega, h.bel.trans (fr.below hs h.F0), row_block h.a fun r hr => fr.block r (own_lt h.a r hr).2 (h.fa r hr), row_block h.b fun r hr => fr.block r (own_lt h.b r hr).2 (h.fb r hr), fun r hr hf => ?_, fun r hr hf => ?_, h.ab⟩
  · have := (own_lt h.a r hr).2
    rcases hF' r hf with q | q
    · exact h.fa r hr q
    · omega
  · have := (own_lt h.b r hr).2
    rcases hF' r hf with q | q
    · exact h.fb r hr q
    · omega
theorem Cl.appa {w0 w w' : World} {d N : Nat} {F : Nat → Prop} {s : St} {A B : List Str} {x y v : Value} {t : Str} (h : Cl w0 w d F N s A B x y) (o : w'.ownsRow w0.heap.size 9 1 v (A.length + 1) (sv A ++ [Value.string ⟨t.toArray⟩])) (g : w.grownBy w' x.ownBlock) (hv : v.ownBlock = x.ownBlock ∨ ∃ g, v.ownBlock = some g ∧ w.heap.size ≤ g) : Cl w0 w' d F N s (A ++ [t]) B v y := by
  have hf : Fr (fun i => x.ownBlock = some i) w w' := Fr.of_grown g fun j hj => .inl hj
  refine ⟨h.dk.other hf fun i hi hq => h.fa i hq hi, h.F0, h.bel.trans (hf.below h.bel.size fun i hi => (own_lt h.a i hi).1), by rw [List.length_append, sv_append]; exact o, row_block h.b fun r hr => g.block r (own_lt h.b r hr).2 fun q => h.ab r q.symm hr, fun r hr => ?_, h.fb, fun r hr q => ?_⟩
  · rcases hv with e | ⟨g1, e, hg⟩
    · rw [e] at hr
      exact h.fa r hr
    · have e2 : g1 = r := by rw [e] at hr; injection hr
      subst e2
      exact fun hf => by have := h.dk.lt _ hf; omega
  · rcases hv with e | ⟨g1, e, hg⟩
    · rw [e] at hr
      exact h.ab r hr q
    · have e2 : g1 = r := by rw [e] at hr; injection hr
      subst e2
      have := (own_lt h.b _ q).2
      omega
theorem Cl.swap {w0 w : World} {d N : Nat} {F : Nat → Prop} {s : St} {A B : List Str} {x y : Value} (h : Cl w0 w d F N s A B x y) : Cl w0 w d F N s B A y x := ⟨h.dk, h.F0, h.bel, h.b, h.a, h.fb, h.fa, fun r hr q => h.ab r q hr⟩
theorem Cl.appb {w0 w w' : World} {d N : Nat} {F : Nat → Prop} {s : St} {A B : List Str} {x y v : Value} {t : Str} (h : Cl w0 w d F N s A B x y) (o : w'.ownsRow w0.heap.size 9 1 v (B.length + 1) (sv B ++ [Value.string ⟨t.toArray⟩])) (g : w.grownBy w' y.ownBlock) (hv : v.ownBlock = y.ownBlock ∨ ∃ g, v.ownBlock = some g ∧ w.heap.size ≤ g) : Cl w0 w' d F N s A (B ++ [t]) x v := (h.swap.appa o g hv).swap
theorem Cl.rows {w0 w : World} {d N : Nat} {F : Nat → Prop} {s : St} {A B : List Str} {x y : Value} (h : Cl w0 w d F N s A B x y) : Rds w x (sv A) ∧ Rds w y (sv B) :=
  ⟨Own.rds (e := 9) (base := w0.heap.size) (by unfold Own; rw [sv_length]; exact h.a), Own.rds (e := 9) (base := w0.heap.size) (by unfold Own; rw [sv_length]; exact h.b)⟩
end Go.Proofs.Ythegdhbmfojdaaa
