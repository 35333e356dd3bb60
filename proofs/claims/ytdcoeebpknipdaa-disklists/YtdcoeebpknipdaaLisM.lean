/- What DiskLists says, without a walk; the contract of the reference's Begins. -/
import Derived.Test.YtdcoeebpknipdaaAwk
namespace Go.Proofs.Ytdcoeebpknipdaa
open Go.RowKit Go.Maps
set_option linter.unusedVariables false

theorem rfC_1n {s : St} {nm : Str} (ho : s.off = false) : rfC s [nm] = if isNm nm then 0 else 1 := by
  unfold rfC
  rw [ho]
  simp
theorem app_bad {s : St} {nm b : Str} (ho : s.off = false) (hn : isNm nm = false) : s.append nm b = (1, s) := by
  unfold St.append
  rw [rfC_1n ho, hn]
  simp
theorem app_good {s : St} {nm b : Str} (ho : s.off = false) (hs : s.set = false) (hn : isNm nm = true) (hl : s.fs.length < 1000) : s.append nm b = (0, ({ s with fs := addF (opnF s.fs nm) nm b } : St).tick) := by
  have h1 : ¬ (hasF s.fs nm = false ∧ 1000 ≤ s.fs.length) := fun h => by omega
  unfold St.append St.count
  rw [rfC_1n ho, hn, if_neg (by simp), if_neg h1, if_neg (by simp [hs])]
theorem has_add (fs : List Fl) (nm b t : Str) : hasF (addF fs nm b) t = hasF fs t := by
  unfold hasF addF
  rw [List.any_map]
  congr 1
  funext f
  simp only [Function.comp]
  split <;> rfl
theorem has_opn (fs : List Fl) (nm t : Str) : hasF (opnF fs nm) t = (hasF fs t || nm == t) := by
  unfold opnF
  split
  · next h =>
    by_cases e : nm = t
    · subst e; rw [h]; rfl
    · simp [e]
  · simp [hasF, List.any_append]
theorem lenL_add (fs : List Fl) (nm b : Str) : (addF fs nm b).length = fs.length := by simp [addF]
theorem len_opn (fs : List Fl) (nm : Str) : (opnF fs nm).length ≤ fs.length + 1 := by
  unfold opnF
  split <;> simp
/-- The disk behind i names, of which these are good. -/
structure Ls (s : St) (good : List Str) (i : Nat) : Prop where
  off : s.off = false
  set : s.set = false
  ops : s.ops ≤ i
  len : s.fs.length ≤ i
  gl : good.length ≤ i
  has : ∀ t, hasF s.fs t = true ↔ t ∈ good
theorem Ls.zero : Ls st0 [] 0 := ⟨rfl, rfl, Nat.le_refl _, Nat.le_refl _, Nat.le_refl _, fun t => by simp [hasF, st0]⟩
theorem Ls.bad {s : St} {good : List Str} {i : Nat} (h : Ls s good i) : Ls s good (i + 1) := ⟨h.off, h.set, Nat.le_succ_of_le h.ops, Nat.le_succ_of_le h.len, Nat.le_succ_of_le h.gl, h.has⟩
theorem Ls.good {s : St} {good : List Str} {i : Nat} {nm : Str} (h : Ls s good i) (hn : isNm nm = true) (hi : i < 60) : (s.append nm []).1 = 0 ∧ Ls (s.append nm []).2 (good ++ [nm]) (i + 1) := by
  have hl := h.len
  rw [app_good h.off h.set hn (by omega)]
  refine ⟨rfl, h.off, h.set, Nat.succ_le_succ h.ops, ?_, ?_, fun t => ?_⟩
  · show (addF (opnF s.fs nm) nm []).length ≤ i + 1
    rw [lenL_add]
    have := len_opn s.fs nm
    omega
  · have := h.gl
    simp
    omega
  · show hasF (addF (opnF s.fs nm) nm []) t = true ↔ _
    rw [has_add, has_opn]
    rw [Bool.or_eq_true, h.has t, List.mem_append, List.mem_singleton, beq_iff_eq]
    exact or_congr Iff.rfl eq_comm
theorem Dk.nodup {w : World} {d N : Nat} {F : Nat → Prop} {s : St} (h : Dk w d F N s) : (s.fs.map Fl.nm).Nodup := by
  obtain ⟨mo, Z, hz⟩ := h
  rw [← hz.fs, List.map_map]
  unfold List.Nodup
  rw [List.pairwise_map]
  exact hz.ap.imp fun h => h.1
/-- What is told. -/
structure LL (l good : List Str) (p : Str) : Prop where
  ri : ∀ i (h : i + 1 < l.length), l[i]'(by omega) < l[i + 1]
  a : ∀ t ∈ l, t ∈ good ∧ Lib.hasPrefix t p = true
  b : ∀ t ∈ good, Lib.hasPrefix t p = true → t ∈ l
theorem mem_has {fs : List Fl} {t : Str} : hasF fs t = true ↔ ∃ f ∈ fs, f.nm = t := by
  unfold hasF
  rw [List.any_eq_true]
  simp
theorem mem_pre {fs : List Fl} {p t : Str} : t ∈ preN fs p ↔ hasF fs t = true ∧ Lib.hasPrefix t p = true := by
  rw [mem_has]
  unfold preN
  rw [List.mem_map]
  constructor
  · rintro ⟨f, hf, rfl⟩
    rw [List.mem_filter] at hf
    exact ⟨⟨f, hf.1, rfl⟩, hf.2⟩
  · rintro ⟨⟨f, hf, rfl⟩, h⟩
    exact ⟨f, List.mem_filter.2 ⟨hf, h⟩, rfl⟩
theorem mem_srt {ts : List Str} {t : Str} : t ∈ srt ts ↔ t ∈ ts := (List.mergeSort_perm ts _).mem_iff
theorem srt_pair (ts : List Str) : (srt ts).Pairwise fun x y => x ≤ y := by
  have tr : ∀ x y z : Str, decide (x ≤ y) = true → decide (y ≤ z) = true → decide (x ≤ z) = true := fun x y z h1 h2 => by
    simp only [decide_eq_true_eq] at h1 h2 ⊢
    exact List.le_trans h1 h2
  have tot : ∀ x y : Str, (decide (x ≤ y) || decide (y ≤ x)) = true := fun x y => by
    have := List.le_total x y
    simpa using this
  exact (List.pairwise_mergeSort tr tot ts).imp fun h => of_decide_eq_true h
theorem Ls.ll {w : World} {d N i : Nat} {F : Nat → Prop} {s : St} {good : List Str} (h : Ls s good i) (hd : Dk w d F N s) (p : Str) : LL (lstN s p) good p := by
  have e : lstN s p = srt (preN s.fs p) := by unfold lstN; rw [h.off]; rfl
  have hn : (srt (preN s.fs p)).Nodup := by
    refine (List.mergeSort_perm _ _).nodup_iff.2 ?_
    unfold preN
    exact (hd.nodup).sublist (List.filter_sublist.map _)
  rw [e]
  refine ⟨fun i hi => ?_, fun t ht => ?_, fun t ht hp => ?_⟩
  · have h1 := List.pairwise_iff_getElem.1 (srt_pair (preN s.fs p)) i (i + 1) (by omega) hi (by omega)
    have h2 := List.pairwise_iff_getElem.1 hn i (i + 1) (by omega) hi (by omega)
    exact List.not_le.1 fun h3 => h2 (List.le_antisymm h1 h3)
  · rw [mem_srt, mem_pre, h.has] at ht
    exact ht
  · rw [mem_srt, mem_pre, h.has]
    exact ⟨ht, hp⟩
theorem str_take (t : Str) (k : Nat) : (⟨t.toArray⟩ : ByteArray).extract 0 k = ⟨(t.take k).toArray⟩ := by
  apply ByteArray.ext
  apply Array.ext'
  rw [Lib.extract_data]
  simp
theorem pre_yes {s t : Str} (h : Lib.hasPrefix t s = true) : s.length ≤ t.length ∧ t.take s.length = s := by
  unfold Lib.hasPrefix at h
  rw [List.isPrefixOf_iff_prefix] at h
  exact ⟨h.length_le, (List.prefix_iff_eq_take.1 h).symm⟩
theorem pre_no {s t : Str} (h : Lib.hasPrefix t s = false) : t.take s.length ≠ s := fun e => by
  have : Lib.hasPrefix t s = true := by
    unfold Lib.hasPrefix
    rw [List.isPrefixOf_iff_prefix]
    exact List.prefix_iff_eq_take.2 e.symm
  rw [h] at this
  cases this
set_option maxHeartbeats 800000 in
theorem refbegins_any (w : World) (t p : Str) (ht : t.length ≤ maxLen) (hp : p.length ≤ maxLen) : Calls Try.prog 29 #[.string ⟨t.toArray⟩, .string ⟨p.toArray⟩] w fun e w' => e = .returned (.bool (Lib.hasPrefix t p)) ∧ w' = w := by
  unfold maxLen at ht hp
  have hst := str_size t
  have hsp := str_size p
  have st := str_take t p.length
  by_cases hb : Lib.hasPrefix t p = true
  · obtain ⟨p1, p2⟩ := pre_yes hb
    have p1z : (p.length : Int) ≤ (t.length : Int) := by omega
    rw [p2] at st
    rw [hb]
    clear hb p2
    go_enter Try.func29, Try.ntmps29
    go_wp2_with fail
    go_ret
    exact ⟨rfl, rfl⟩
  · have hb : Lib.hasPrefix t p = false := by simpa using hb
    have hne := pre_no hb
    rw [hb]
    by_cases p1 : p.length ≤ t.length
    · have p1z : (p.length : Int) ≤ (t.length : Int) := by omega
      generalize t.take p.length = t' at *
      have he2 : (t' == p) = false := by simpa using hne
      clear hb hne
      go_enter Try.func29, Try.ntmps29
      go_wp2_with fail
      go_ret
      exact ⟨rfl, rfl⟩
    · have p1z : ¬ (p.length : Int) ≤ (t.length : Int) := by omega
      clear hb hne st
      go_enter Try.func29, Try.ntmps29
      go_wp2_with fail
      go_ret
      exact ⟨rfl, rfl⟩
end Go.Proofs.Ytdcoeebpknipdaa
