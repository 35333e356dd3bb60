/- What the reference's blobs say, and that it is what the store says. No walk stands here. -/
import Derived.Test.YthegdhbmfojdaaaBl8
import Derived.Test.YthegdhbmfojdaaaRlS
namespace Go.Proofs.Ythegdhbmfojdaaa
open Go.RowKit Go.Maps Go.Sort
set_option linter.unusedVariables false

def rrB (t : RSt) (x : Str) : Nat := if t.off then 122 else if bNm x then 0 else 1
def rgetB (t : RSt) (x : Str) : Nat × Str :=
  if rrB t x ≠ 0 then (rrB t x, []) else if rrc t (fB x) (fB x) ≠ 0 then (rrc t (fB x) (fB x), []) else if Wi.unf (rrd t (fB x)) = 0 then (0, (rrd t (fB x)).drop 8) else (11, [])
def rdelB (t : RSt) (x : Str) : Nat × RSt := if rrB t x ≠ 0 then (rrB t x, t) else rrem t (fB x)
def thr (r : Nat × RSt) (f : RSt → Nat × RSt) : Nat × RSt := if r.1 ≠ 0 then r else f r.2
def rw1 (t : RSt) (x : Str) : Nat × RSt := if hasF t.fs (fT x) then rrem t (fT x) else (0, t)
def rwrB (t : RSt) (x fl : Str) : Nat × RSt := thr (thr (thr (rw1 t x) fun t => rapp t (fT x) fl) fun t => rsyn t (fT x)) fun t => rren t (fT x) (fB x)
def rputB (t : RSt) (x l : Str) : Nat × RSt :=
  if rrB t x ≠ 0 then (rrB t x, t) else if 1048576 < l.length then (1, t) else
  if hasF t.fs (fB x) then (if (rgetB t x).1 = 0 ∧ (rgetB t x).2 = l then (0, t) else (121, t)) else rwrB t x (Wi.framed l)
def rmR : List Str → RSt → Nat × RSt
  | [], t => (0, t)
  | a :: tl, t => if (rrem t a).1 ≠ 0 then rrem t a else rmR tl (rrem t a).2
def ropenB (t : RSt) : Nat × RSt := if t.off then (122, t) else rmR (rls t [116, 46]) t
def rlistB (t : RSt) : List Str := blN (rls t [98, 46])

theorem nm_mark {c : UInt8} (hc : nmB c = true) (x : Str) : isNm (c :: 46 :: x) = (decide (x.length ≤ 62) && x.all nmB) := by
  have h46 : nmB 46 = true := by decide
  unfold isNm
  simp only [List.length_cons, List.all_cons, hc, h46, Bool.true_and]
  have : (!(decide (x.length + 1 + 1 < 1) || decide (64 < x.length + 1 + 1))) = decide (x.length ≤ 62) := by
    rw [Bool.eq_iff_iff]
    simp
  rw [this]
theorem nm_fB (x : Str) : isNm (fB x) = (decide (x.length ≤ 62) && x.all nmB) := nm_mark (by decide) x
theorem nm_fT (x : Str) : isNm (fT x) = (decide (x.length ≤ 62) && x.all nmB) := nm_mark (by decide) x
theorem bNm_eq (x : Str) : bNm x = (decide (x ≠ []) && isNm (fB x)) := by
  rw [nm_fB]
  unfold bNm
  have : (!(decide (x.length < 1) || decide (62 < x.length))) = (decide (x ≠ []) && decide (x.length ≤ 62)) := by
    rw [Bool.eq_iff_iff]
    cases x <;> simp
  rw [this, Bool.and_assoc]
theorem bNm_fB {x : Str} (h : bNm x = true) : isNm (fB x) = true ∧ isNm (fT x) = true := by
  rw [bNm_eq, Bool.and_eq_true] at h
  refine ⟨h.2, ?_⟩
  rw [nm_fT, ← nm_fB]
  exact h.2
section
variable {s : St} {t : RSt}
theorem Rel.rB (h : Rel s t) (x : Str) : rfB s x = rrB t x := by unfold rfB rrB; rw [h.off]
theorem Rel.getB (h : Rel s t) (x : Str) : bget s x = rgetB t x := by
  obtain ⟨e1, e2⟩ := h.read (fB x)
  unfold bget rgetB
  rw [h.rB, e1, e2]
theorem Rel.delB (h : Rel s t) (x : Str) : (bdel s x).1 = (rdelB t x).1 ∧ Rel (bdel s x).2 (rdelB t x).2 := by
  unfold bdel rdelB
  rw [h.rB]
  split
  · exact ⟨rfl, h⟩
  · exact h.remove _
theorem Rel.thr {a : Nat × St} {b : Nat × RSt} {f : St → Nat × St} {g : RSt → Nat × RSt} (h : a.1 = b.1 ∧ Rel a.2 b.2) (hf : Rel a.2 b.2 → (f a.2).1 = (g b.2).1 ∧ Rel (f a.2).2 (g b.2).2) : (thn a f).1 = (thr b g).1 ∧ Rel (thn a f).2 (thr b g).2 := by
  unfold thn Go.Proofs.Ythegdhbmfojdaaa.thr
  rw [h.1]
  split
  · exact h
  · exact hf h.2
theorem Rel.w1 (h : Rel s t) {x : Str} (hx : bNm x = true) (ho : t.off = false) : (wr1 s x).1 = (rw1 t x).1 ∧ Rel (wr1 s x).2 (rw1 t x).2 := by
  obtain ⟨e1, e2⟩ := h.remove (fT x)
  have hT := (bNm_fB hx).2
  unfold wr1 rw1
  cases hh : hasF t.fs (fT x) with
  | true =>
    have hc : rrc t (fT x) (fT x) = 0 := by unfold rrc; simp [ho, hT, hh]
    have hne : (rrem t (fT x)).1 ≠ 120 := by
      unfold rrem
      rw [hc]
      cases (rcnt t).1 <;> simp
    rw [if_neg (by rw [e1]; exact hne)]
    exact ⟨e1, e2⟩
  | false =>
    have hc : rrc t (fT x) (fT x) = 120 := by unfold rrc; simp [ho, hT, hh]
    have hr : rrem t (fT x) = (120, t) := by unfold rrem; rw [hc]; rfl
    rw [hr] at e1 e2
    rw [if_pos e1]
    exact ⟨rfl, e2⟩
theorem Rel.wrB (h : Rel s t) {x : Str} (hx : bNm x = true) (ho : t.off = false) (fl : Str) : (wrB s x fl).1 = (rwrB t x fl).1 ∧ Rel (wrB s x fl).2 (rwrB t x fl).2 :=
  Rel.thr (Rel.thr (Rel.thr (h.w1 hx ho) fun q => q.append _ _) fun q => q.sync _) fun q => q.rename _ _
theorem Rel.putB (h : Rel s t) (x l : Str) : (bput s x l).1 = (rputB t x l).1 ∧ Rel (bput s x l).2 (rputB t x l).2 := by
  unfold bput rputB hol
  rw [h.rB, h.getB]
  by_cases h0 : rrB t x ≠ 0
  · rw [if_pos h0, if_pos h0]; exact ⟨rfl, h⟩
  · rw [if_neg h0, if_neg h0]
    by_cases hl : 1048576 < l.length
    · rw [if_pos hl, if_pos hl]; exact ⟨rfl, h⟩
    · rw [if_neg hl, if_neg hl]
      have h0' : rrB t x = 0 := by simpa using h0
      have ho : t.off = false ∧ bNm x = true := by
        unfold rrB at h0'
        cases ho : t.off <;> cases hb : bNm x <;> simp [ho, hb] at h0' ⊢
      have hB := (bNm_fB ho.2).1
      cases hh : hasF t.fs (fB x) with
      | true =>
        have hc : rrc t (fB x) (fB x) = 0 := by unfold rrc; simp [ho.1, hB, hh]
        have hg : (rgetB t x).1 ≠ 120 := by
          unfold rgetB
          rw [h0', hc]
          split <;> simp_all
          split <;> simp
        rw [if_neg hg, if_pos rfl]
        by_cases hq : (rgetB t x).1 = 0 ∧ (rgetB t x).2 = l
        · rw [if_pos hq, if_pos hq]; exact ⟨rfl, h⟩
        · rw [if_neg hq, if_neg hq]; exact ⟨rfl, h⟩
      | false =>
        have hc : rrc t (fB x) (fB x) = 120 := by unfold rrc; simp [ho.1, hB, hh]
        have hg : (rgetB t x).1 = 120 := by
          unfold rgetB
          rw [h0', hc]
          rfl
        rw [if_pos hg]
        exact h.wrB ho.2 ho.1 _
theorem Rel.rmA (ts : List Str) : ∀ {s : St} {t : RSt}, Rel s t → (Go.Proofs.Ythegdhbmfojdaaa.rmA ts s).1 = (rmR ts t).1 ∧ Rel (Go.Proofs.Ythegdhbmfojdaaa.rmA ts s).2 (rmR ts t).2 := by
  induction ts with
  | nil => exact fun h => ⟨rfl, h⟩
  | cons a tl ih =>
    intro s t h
    obtain ⟨e1, e2⟩ := h.remove a
    unfold Go.Proofs.Ythegdhbmfojdaaa.rmA rmR
    rw [e1]
    split
    · exact ⟨e1, e2⟩
    · exact ih e2
theorem Rel.openB (h : Rel s t) : (bopen s).1 = (ropenB t).1 ∧ Rel (bopen s).2 (ropenB t).2 := by
  unfold bopen ropenB
  rw [h.off]
  split
  · exact ⟨rfl, h⟩
  · rw [h.list]
    exact Rel.rmA _ h
theorem Rel.listB (h : Rel s t) : blist s = rlistB t := by
  unfold blist rlistB
  rw [h.list]
end
end Go.Proofs.Ythegdhbmfojdaaa
