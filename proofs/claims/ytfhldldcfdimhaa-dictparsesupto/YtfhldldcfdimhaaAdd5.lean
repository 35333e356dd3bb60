/- The contract of dict.add, whole. -/
import Derived.Test.YtfhldldcfdimhaaAdd4
namespace Go.Proofs.Ytfhldldcfdimhaa
open Go.RowKit Go.Shelf Go.Sort

theorem DD.below {w w' : World} {base B : Nat} {v : Value} {ts : List Str} (h : DD w base B v ts) (hb : Below w.heap.size w w') : DD w' base B v ts := by
  refine ⟨?_, h.ge, h.own.below hb, h.ne, h.few⟩
  rw [hb.block B (Array.getElem?_eq_some_iff.1 h.cell).1]
  exact h.cell
theorem add_one (w : World) (base B : Nat) (v : Value) (ts : List Str) (same : Nat) (rest : Str) (h : DD w base B v ts) (hl : ts.length ≤ 8796093022207) (hr : rest.length ≤ 140737488355328) (hs2 : same < 18446744073709551616) (hbase : base ≤ w.heap.size) :
    Calls Try.prog 35 #[.pointer (some ⟨B, 0, none⟩), .int .u64 same, .string ⟨rest.toArray⟩] w fun e w' =>
      (addS ts same rest = none ∧ e = .returned (.bool false) ∨ ∃ ts' v', addS ts same rest = some ts' ∧ e = .returned (.bool true) ∧ DD w' base B v' ts') ∧ Below base w w' := by
  by_cases hs : same ≤ (prv ts ts.length).length
  · by_cases h0 : 0 < ts.length
    · by_cases hgd : prv ts ts.length < (prv ts ts.length).take same ++ rest ∧ ((prv ts ts.length).take same ++ rest).length ≤ 64 ∧ cpl (prv ts ts.length) ((prv ts ts.length).take same ++ rest) = same
      · refine (add_good w base B v ts same rest h hl h0 hs hr hbase hgd.1 hgd.2.1 hgd.2.2).mono ?_
        rintro e w' ⟨rfl, v', d, hb⟩
        refine ⟨.inr ⟨_, v', ?_, rfl, d⟩, hb⟩
        unfold addS
        rw [if_pos ⟨hs, .inr hgd.1, hgd.2.1, hgd.2.2⟩]
      · refine (add_bad w base B v ts same rest h hl h0 hs hr hgd).mono ?_
        rintro e w' ⟨rfl, q, rfl⟩
        refine ⟨.inl ⟨?_, rfl⟩, below_dN (Below.refl _ _) q⟩
        unfold addS
        rw [if_neg]
        rintro ⟨_, h1 | h1, h2, h3⟩
        · rw [h1] at h0; simp at h0
        · exact hgd ⟨h1, h2, h3⟩
    · obtain rfl : ts = [] := List.eq_nil_of_length_eq_zero (by omega)
      have hs0 : same = 0 := by simpa [prv] using hs
      subst hs0
      by_cases hlong : rest.length ≤ 64
      · refine (first_good w base B v rest ((0 : Nat) : Int) rfl h hlong hbase).mono ?_
        rintro e w' ⟨rfl, v', d, hb⟩
        refine ⟨.inr ⟨_, v', ?_, rfl, d⟩, hb⟩
        simp [addS, prv, hlong, cpl_nil]
      · refine (first_bad w base B v rest ((0 : Nat) : Int) rfl h (by omega) hr).mono ?_
        rintro e w' ⟨rfl, rfl⟩
        refine ⟨.inl ⟨?_, rfl⟩, Below.refl _ _⟩
        simp [addS, prv, hlong]
  · refine (add_more w base B v ts same rest h hl (by omega) hs2).mono ?_
    rintro e w' ⟨rfl, rfl⟩
    refine ⟨.inl ⟨?_, rfl⟩, Below.refl _ _⟩
    unfold addS
    rw [if_neg]
    rintro ⟨h1, _⟩
    exact hs h1
/-- What addS gives. -/
theorem addS_facts {ts ts' : List Str} {same : Nat} {rest : Str} (h : addS ts same rest = some ts') (hr : Ris ts) (hf : ∀ t ∈ ts, t.length ≤ 64) : Ris ts' ∧ (∀ t ∈ ts', t.length ≤ 64) ∧ ts'.length = ts.length + 1 := by
  unfold addS at h
  simp only at h
  split at h
  · next hc =>
    simp only [Option.some.injEq] at h
    subst h
    obtain ⟨_, h1, h2, _⟩ := hc
    refine ⟨?_, fun t ht => ?_, by simp⟩
    · refine List.pairwise_append.2 ⟨hr, by simp, fun a ha b hb => ?_⟩
      simp only [List.mem_singleton] at hb
      subst hb
      rcases h1 with rfl | h1
      · cases ha
      · obtain ⟨i, hi, rfl⟩ := List.getElem_of_mem ha
        have hlast : ts.getD (ts.length - 1) [] = prv ts ts.length := by
          obtain ⟨j, hj⟩ : ∃ j, ts.length = j + 1 := ⟨ts.length - 1, by omega⟩
          rw [hj]; rfl
        rcases Nat.lt_or_eq_of_le (show i ≤ ts.length - 1 by omega) with hlt | heq
        · have := hr.get hlt (show ts.length - 1 < ts.length by omega)
          rw [← getD_at (show ts.length - 1 < ts.length by omega), hlast] at this
          exact lt_tr this h1
        · have e : ts[i] = prv ts ts.length := by rw [← hlast, ← heq, getD_at hi]
          rw [e]; exact h1
    · rcases List.mem_append.1 ht with ht | ht
      · exact hf t ht
      · simp only [List.mem_singleton] at ht
        subst ht; exact h2
  · cases h
/-- What Parse has behind k rounds, where it can be. -/
theorem rnd_facts (l : List UInt8) (p e : Nat) (o : Option (List Str)) (ho : ∀ ts, o = some ts → ts = []) : ∀ k ts, (rnd l (p, e, o) k).2.2 = some ts → Ris ts ∧ (∀ t ∈ ts, t.length ≤ 64) ∧ ts.length = k
  | 0, ts, h => by
    have := ho ts h
    subst this
    exact ⟨List.Pairwise.nil, (fun _ h => by cases h), rfl⟩
  | k + 1, ts, h => by
    have e1 : (rnd l (p, e, o) (k + 1)).2.2 = (rnd l (p, e, o) k).2.2.bind fun ts => addS ts (Rd.uS l (rnd l (p, e, o) k).1 (rnd l (p, e, o) k).2.1).1 (tS l (Rd.uS l (rnd l (p, e, o) k).1 (rnd l (p, e, o) k).2.1).2.1 (Rd.uS l (rnd l (p, e, o) k).1 (rnd l (p, e, o) k).2.1).2.2).1 := rfl
    rw [e1, Option.bind_eq_some_iff] at h
    obtain ⟨ts0, h0, h1⟩ := h
    obtain ⟨a, b, c⟩ := rnd_facts l p e o ho k ts0 h0
    obtain ⟨a', b', c'⟩ := addS_facts h1 a b
    exact ⟨a', b', by omega⟩
theorem tS_length (l : List UInt8) (p e : Nat) : (tS l p e).1.length ≤ l.length := by
  unfold tS
  split
  · simp
  · simp; omega
end Go.Proofs.Ytfhldldcfdimhaa
