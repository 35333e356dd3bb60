/- The reference's Seen in memory. No walk stands here. -/
import Derived.Test.YtnkllgpibmofiaaGro
namespace Go.Proofs.Ytnkllgpibmofiaa
open Go.RowKit Go.Maps Go.Sort
set_option linter.unusedVariables false

abbrev B64' (x : Int) : Prop := -9223372036854775808 ≤ x ∧ x ≤ 9223372036854775807
abbrev On := Int × Nat
def oc (p : On) : List Value := [.int .i64 p.1, .int .u64 (p.2 : Int)]
def ocs (L : List On) : List Value := L.flatMap oc
theorem ocs_nil : ocs [] = [] := rfl
theorem ocs_cons (p : On) (L : List On) : ocs (p :: L) = oc p ++ ocs L := by simp [ocs]
theorem ocs_length (L : List On) : (ocs L).length = L.length * 2 := by
  induction L with
  | nil => rfl
  | cons p L ih => rw [ocs_cons, List.length_append, ih]; simp [oc]; omega
theorem ocs_append (L M : List On) : ocs (L ++ M) = ocs L ++ ocs M := by simp [ocs]
theorem ocs_get (L : List On) (i : Nat) (h : i < L.length) : (ocs L)[i * 2]? = some (.int .i64 L[i].1) ∧ (ocs L)[i * 2 + 1]? = some (.int .u64 (L[i].2 : Int)) := by
  induction L generalizing i with
  | nil => simp at h
  | cons p L ih =>
    cases i with
    | zero => exact ⟨rfl, rfl⟩
    | succ i =>
      have hi : i < L.length := by simpa using h
      have := ih i hi
      rw [ocs_cons]
      have e1 : (i + 1) * 2 = i * 2 + 2 := by omega
      constructor
      · rw [e1, List.getElem?_append_right (by simp [oc])]
        exact this.1
      · rw [e1, List.getElem?_append_right (by simp [oc])]
        exact this.2
theorem ocs_set (L : List On) (i x : Nat) (h : i < L.length) : ocs (L.set i (L[i].1, x)) = (ocs L).set (i * 2 + 1) (.int .u64 (x : Int)) := by
  induction L generalizing i with
  | nil => simp at h
  | cons p L ih =>
    cases i with
    | zero => simp [ocs_cons, oc]
    | succ i =>
      have hi : i < L.length := by simpa using h
      have e1 : (i + 1) * 2 + 1 = (i * 2 + 1) + 2 := by omega
      rw [List.set_cons_succ, ocs_cons, ocs_cons, e1, List.getElem_cons_succ, ih i hi]
      simp [oc]
theorem ocs_one (L : List On) : ∀ u ∈ ocs L, u.oneCell' = true := by
  intro u hu
  simp only [ocs, List.mem_flatMap] at hu
  obtain ⟨p, _, hu⟩ := hu
  simp only [oc, List.mem_cons, List.not_mem_nil, or_false] at hu
  rcases hu with rfl | rfl <;> rfl
theorem Try.info_one : (Try.prog.info? 108).map (fun i => (i.zero, i.size, i.bytes)) = some (some (.agg #[.int .i64 0, .int .u64 0]), 2, 16) := by kernel_rfl
structure RS (w : World) (r : Nat) (most : Int) (v : Value) (L : List On) : Prop where
  b : BxA w r 72 #[.int .i64 most, v]
  o : w.ownsRow 0 108 2 v L.length (ocs L)
def RBk (r : Nat) (v : Value) (i : Nat) : Prop := i = r ∨ v.ownBlock = some i
theorem RS.frame {w w' : World} {r : Nat} {most : Int} {v : Value} {L : List On} (h : RS w r most v L) (hb : ∀ i, RBk r v i → w'.heap[i]? = w.heap[i]?) : RS w' r most v L := by
  refine ⟨by have := h.b; unfold BxA at this ⊢; rw [hb _ (.inl rfl)]; exact this, h.o.1, ?_⟩
  rcases h.o.2 with h2 | ⟨g', cap, cur, h1, h2, h3, h4⟩
  · exact .inl h2
  · refine .inr ⟨g', cap, cur, h1, h2, ?_, h4⟩
    rw [hb g' (.inr (by rw [h1]; rfl))]
    exact h3
theorem RS.lt {w : World} {r : Nat} {most : Int} {v : Value} {L : List On} (h : RS w r most v L) {i : Nat} (hi : RBk r v i) : i < w.heap.size := by
  rcases hi with rfl | hi
  · exact h.b.lt
  · exact (World.ownsRow.lt h.o i hi).2
theorem RS.below {w w' : World} {r : Nat} {most : Int} {v : Value} {L : List On} (h : RS w r most v L) (hb : Below w.heap.size w w') : RS w' r most v L := h.frame fun i hi => hb.block i (h.lt hi)
theorem RS.ne {w : World} {r : Nat} {most : Int} {v : Value} {L : List On} (h : RS w r most v L) : ∀ b, v.ownBlock = some b → b ≠ r := fun b hb e => by
  have hd : w.heap[r]? = _ := h.b
  rcases h.o.2 with ⟨h1, _⟩ | ⟨g', cap, cur, h1, _, h3, _⟩
  · rw [h1] at hb; cases hb
  · rw [h1] at hb
    simp only [Value.ownBlock, Option.some.injEq] at hb
    rw [← hb] at e
    rw [e, hd] at h3
    simp only [Option.some.injEq, Obj.cells.injEq] at h3
    exact absurd h3.2.1 (by decide)
theorem RS.sh {w : World} {r : Nat} {most : Int} {v : Value} {L : List On} (h : RS w r most v L) : ∃ ao c, v = .slice ao L.length c ∧ L.length ≤ c ∧ c ≤ maxLen ∧ (0 < L.length → ∃ b, ao = some ⟨b, 0, none⟩ ∧ ∀ i (hi : i < L.length), w.cell? ⟨b, i * 2, none⟩ = some (.int .i64 L[i].1) ∧ w.cell? ⟨b, i * 2 + 1, none⟩ = some (.int .u64 (L[i].2 : Int)) ∧ w.frozen? ⟨b, i * 2 + 1, none⟩ = false) := by
  have ho := h.o
  rcases h.o.2 with ⟨rfl, hn⟩ | ⟨g, cap, cur, rfl, hb, hg, hnc, hcm, hcs, ht⟩
  · exact ⟨none, 0, by rw [hn], by omega, by unfold maxLen; omega, fun h => by omega⟩
  · refine ⟨some ⟨g, 0, none⟩, cap, rfl, hnc, hcm, fun _ => ⟨g, rfl, fun i hi => ?_⟩⟩
    obtain ⟨h1, h2⟩ := ocs_get L i hi
    have k1 := World.ownsRow.cells ho rfl _ _ h1
    have k2 := World.ownsRow.cells ho rfl _ _ h2
    rw [Addr.add_lit] at k1 k2
    simp only [Nat.zero_add] at k1 k2
    exact ⟨k1, k2, frozen_of_row w g _ _ _ hg⟩
/-- Behind the first i ones. -/
structure LI (L : List On) (f : Int) (id i : Nat) (n : Nat) (least : Int) : Prop where
  no : ∀ k (h : k < L.length), k < i → L[k].1 = f → L[k].2 ≠ id
  cn : n = ((L.take i).filter fun p => p.1 == f).length
  l : (least = -1 ∧ n = 0) ∨ ∃ k, ∃ h : k < L.length, k < i ∧ least = (k : Int) ∧ L[k].1 = f ∧ ∀ j (hj : j < L.length), j < i → L[j].1 = f → L[k].2 ≤ L[j].2
theorem LI.start (L : List On) (f : Int) (id : Nat) : LI L f id 0 0 (-1) := ⟨fun k _ h => by omega, rfl, .inl ⟨rfl, rfl⟩⟩
theorem take_succ_f (L : List On) (f : Int) (i : Nat) (h : i < L.length) : ((L.take (i + 1)).filter fun p => p.1 == f).length = ((L.take i).filter fun p => p.1 == f).length + if L[i].1 = f then 1 else 0 := by
  rw [List.take_succ_eq_append_getElem h, List.filter_append, List.length_append]
  by_cases e : L[i].1 = f <;> simp [e]
theorem LI.skip {L : List On} {f : Int} {id i n : Nat} {least : Int} (h : LI L f id i n least) (hi : i < L.length) (hne : L[i].1 ≠ f) : LI L f id (i + 1) n least := by
  refine ⟨fun k hk h1 h2 => ?_, ?_, ?_⟩
  · by_cases e : k = i
    · subst e; exact absurd h2 hne
    · exact h.no k hk (by omega) h2
  · rw [take_succ_f L f i hi, if_neg hne]; exact h.cn
  · rcases h.l with h1 | ⟨k, hk, h1, h2, h3, h4⟩
    · exact .inl h1
    · refine .inr ⟨k, hk, by omega, h2, h3, fun j hj h5 h6 => ?_⟩
      by_cases e : j = i
      · subst e; exact absurd h6 hne
      · exact h4 j hj (by omega) h6
theorem LI.take {L : List On} {f : Int} {id i n : Nat} {least : Int} (h : LI L f id i n least) (hi : i < L.length) (he : L[i].1 = f) (hid : L[i].2 ≠ id) (hl : least = -1 ∨ ∀ k (hk : k < L.length), least = (k : Int) → L[i].2 < L[k].2) : LI L f id (i + 1) (n + 1) (i : Int) := by
  refine ⟨fun k hk h1 h2 => ?_, by rw [take_succ_f L f i hi, if_pos he, ← h.cn], .inr ⟨i, hi, by omega, rfl, he, fun j hj h5 h6 => ?_⟩⟩
  · by_cases e : k = i
    · subst e; exact hid
    · exact h.no k hk (by omega) h2
  · by_cases e : j = i
    · subst e; exact Nat.le_refl _
    · rcases h.l with ⟨h1, h2⟩ | ⟨k, hk, h1, h2, h3, h4⟩
      · exfalso
        have h7 := h.cn
        rw [h2] at h7
        have : L[j] ∈ (L.take i).filter fun p => p.1 == f := by
          rw [List.mem_filter]
          refine ⟨?_, by simpa using h6⟩
          rw [List.mem_take_iff_getElem]
          exact ⟨j, by omega, rfl⟩
        rw [List.eq_nil_of_length_eq_zero h7.symm] at this
        cases this
      · have h7 := h4 j hj (by omega) h6
        rcases hl with hl | hl
        · omega
        · have := hl k hk h2
          omega
theorem LI.keep {L : List On} {f : Int} {id i n : Nat} {k : Nat} (h : LI L f id i n (k : Int)) (hi : i < L.length) (he : L[i].1 = f) (hid : L[i].2 ≠ id) (hk : k < L.length) (hl : ¬ L[i].2 < L[k].2) : LI L f id (i + 1) (n + 1) (k : Int) := by
  refine ⟨fun k hk h1 h2 => ?_, by rw [take_succ_f L f i hi, if_pos he, ← h.cn], ?_⟩
  · by_cases e : k = i
    · subst e; exact hid
    · exact h.no k hk (by omega) h2
  · rcases h.l with ⟨h1, h2⟩ | ⟨k', hk', h1, h2, h3, h4⟩
    · omega
    · have e : k' = k := by omega
      subst e
      refine .inr ⟨k', hk', by omega, rfl, h3, fun j hj h5 h6 => ?_⟩
      by_cases e : j = i
      · subst e; omega
      · exact h4 j hj (by omega) h6
end Go.Proofs.Ytnkllgpibmofiaa
