/- What the reference's Holds is asked, kind by kind. No walk stands here. -/
import Derived.Test.YtlfkhinmncbkcaaLaws0
namespace Go.Proofs.Ytlfkhinmncbkcaa
open Go.RowKit Go.Sort

/-- What the reference's Holds promises of trees below N. -/
def RHoldC (X : Fc) (N : Nat) : Prop := ∀ t : Tr, SizeOf.sizeOf t < N → ∀ w, t.Ok w → X.Ok w → t.fitA X.ds.length X.ms.length = true →
  Calls Try.prog 16 #[.agg #[.int .i64 t.k, .int .i64 t.d, t.tv, .int .i64 t.lo, .int .i64 t.hi, t.kv], .agg #[.int .i64 X.t, X.dv, X.mv]] w fun e w' => e = .returned (.bool (t.hold X)) ∧ Grows w w'
theorem fitA_fit {D M : Int} {t : Tr} (h : t.fitA D M = true) : t.fit D M = true ∧ fitL D M t.kids = true := by
  rw [t.fitA_eq, Bool.and_eq_true] at h; exact h
theorem fit_one {D M : Int} {t : Tr} (h2 : t.k = 2) (h : t.fitA D M = true) : ∃ c, t.ks = [c] ∧ c.fitA D M = true := by
  obtain ⟨hf, hl⟩ := fitA_fit h
  unfold Tr.fit at hf
  rw [if_neg (by omega), if_pos h2] at hf
  have h1 : t.ks.length = 1 := by simpa using hf
  cases hks : t.ks with
  | nil => rw [hks] at h1; simp at h1
  | cons c r =>
    cases r with
    | nil =>
      refine ⟨c, rfl, ?_⟩
      rw [not_kids h2 hks, fitL_one] at hl
      exact hl
    | cons d r => rw [hks] at h1; simp at h1
theorem fit_rng {D M : Int} {t : Tr} (h567 : t.k = 5 ∨ t.k = 6 ∨ t.k = 7) (h : t.fitA D M = true) : (0 ≤ t.d ∧ t.d < D) ∧ (t.k = 6 → t.ts.length = 2) ∧ (t.k = 7 → t.ts.length = 1) := by
  have hf := (fitA_fit h).1
  unfold Tr.fit at hf
  rw [if_neg (by omega), if_neg (by omega), if_neg (by omega)] at hf
  by_cases h6 : t.k = 6
  · rw [if_pos h6] at hf
    simp only [Bool.and_eq_true, decide_eq_true_eq] at hf
    exact ⟨hf.2.1, fun _ => hf.1, fun h => by omega⟩
  · rw [if_neg h6] at hf
    by_cases h7 : t.k = 7
    · rw [if_pos h7] at hf
      simp only [Bool.and_eq_true, decide_eq_true_eq] at hf
      exact ⟨hf.2.1, fun h => absurd h h6, fun _ => hf.1⟩
    · rw [if_neg h7, if_pos (by omega)] at hf
      simp only [Bool.and_eq_true, decide_eq_true_eq] at hf
      exact ⟨hf.1, fun h => absurd h h6, fun h => absurd h h7⟩
theorem fit_8 {D M : Int} {t : Tr} (h8 : t.k = 8) (h : t.fitA D M = true) : 0 ≤ t.d ∧ t.d < M := by
  have hf := (fitA_fit h).1
  unfold Tr.fit at hf
  rw [if_neg (by omega), if_neg (by omega), if_pos h8] at hf
  simpa using hf
theorem fit_kind {D M : Int} {t : Tr} (h : t.fitA D M = true) : t.k = 1 ∨ t.k = 2 ∨ t.k = 3 ∨ t.k = 4 ∨ t.k = 5 ∨ t.k = 6 ∨ t.k = 7 ∨ t.k = 8 := by
  have hf := (fitA_fit h).1
  unfold Tr.fit at hf
  by_cases h1 : t.k = 1 ∨ t.k = 3 ∨ t.k = 4
  · omega
  · rw [if_neg h1] at hf
    by_cases h2 : t.k = 2
    · omega
    · rw [if_neg h2] at hf
      by_cases h8 : t.k = 8
      · omega
      · rw [if_neg h8] at hf
        by_cases h6 : t.k = 6
        · omega
        · rw [if_neg h6] at hf
          by_cases h7 : t.k = 7
          · omega
          · rw [if_neg h7] at hf
            by_cases h5 : t.k = 5
            · omega
            · rw [if_neg h5] at hf; cases hf
theorem hold_1 (X : Fc) {t : Tr} (h : t.k = 1) : t.hold X = true := by
  rw [t.hold_eq, kids_none (by omega) (by omega) (by omega)]
  unfold holdE
  rw [if_pos (.inl h)]; rfl
theorem hold_8 {X : Fc} {t : Tr} (h : t.k = 8) {i : Nat} (hi : t.d = (i : Int)) (hl : i < X.ms.length) : t.hold X = (decide (t.lo ≤ X.ms.getD i 0) && decide (X.ms.getD i 0 ≤ t.hi)) := by
  rw [t.hold_eq]
  unfold holdE
  rw [if_neg (by omega), if_neg (by omega), if_neg (by omega), if_pos h, decide_eq_true (show 0 ≤ t.d ∧ t.d < (X.ms.length : Int) by omega), show t.d.toNat = i by omega]
  simp
theorem hold_txt {X : Fc} {t : Tr} (h : t.k = 5 ∨ t.k = 6 ∨ t.k = 7) {i : Nat} (hi : t.d = (i : Int)) (hl : i < X.ds.length) : t.hold X = t.txt (X.ds.getD i []) := by
  rw [t.hold_eq]
  unfold holdE
  rw [if_neg (by omega), if_neg (by omega), if_neg (by omega), if_neg (by omega), decide_eq_true (show 0 ≤ t.d ∧ t.d < (X.ds.length : Int) by omega), show t.d.toNat = i by omega]
  simp
theorem txt_5 {t : Tr} (h : t.k = 5) (s : Str) : t.txt s = hasT t.ts s := by unfold Tr.txt; rw [if_pos h]
theorem txt_6 {t : Tr} (h : t.k = 6) (hl : t.ts.length = 2) (s : Str) : t.txt s = ((Op.bytesLess (t.ts.getD 0 []) s || t.ts.getD 0 [] == s) && Op.bytesLess s (t.ts.getD 1 [])) := by
  unfold Tr.txt; rw [if_neg (by omega), if_pos h, decide_eq_true hl]; simp
theorem txt_7 {t : Tr} (h : t.k = 7) (hl : t.ts.length = 1) (s : Str) : t.txt s = pre (t.ts.getD 0 []) s := by
  unfold Tr.txt; rw [if_neg (by omega), if_neg (by omega), if_pos h, decide_eq_true hl]; simp
theorem anyB_some {X : Fc} {a : Bool} {l : List Tr} {x : Tr} (hx : x ∈ l) (h : x.hold X = a) : anyB a (holdL X l) = true := by
  obtain ⟨i, hi, rfl⟩ := List.mem_iff_getElem.1 hx
  exact anyB_true hi h
end Go.Proofs.Ytlfkhinmncbkcaa
