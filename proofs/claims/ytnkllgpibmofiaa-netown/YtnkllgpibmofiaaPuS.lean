/- What came already: the program's state and the reference's, purely. No walk stands here. -/
import Derived.Test.YtnkllgpibmofiaaSn5
import Derived.Test.YtnkllgpibmofiaaRs1
namespace Go.Proofs.Ytnkllgpibmofiaa
set_option linter.unusedVariables false

def idsOf (Z : List Rw) (f : Int) : List Nat := (Z.filter fun x => x.fr == f).flatMap fun x => x.ids
def lfO (L : List On) (f : Int) : List Nat := (L.filter fun p => p.1 == f).map fun p => p.2
theorem lfO_len (L : List On) (f : Int) : (lfO L f).length = cntF L f := by simp [lfO, cntF]
theorem idsOf_perm {Y Z : List Rw} (h : Y.Perm Z) (f : Int) : (idsOf Y f).Perm (idsOf Z f) := (h.filter _).flatMap_right _
theorem idsOf_none {Z : List Rw} {f : Int} (h : ∀ y ∈ Z, y.fr ≠ f) : idsOf Z f = [] := by
  unfold idsOf
  rw [List.filter_eq_nil_iff.2 fun y hy => by simpa using h y hy]
  rfl
theorem idsOf_cons (x : Rw) (R : List Rw) (f : Int) : idsOf (x :: R) f = (if x.fr = f then x.ids else []) ++ idsOf R f := by
  unfold idsOf
  by_cases h : x.fr = f <;> simp [h]
theorem lfO_append (L M : List On) (f : Int) : lfO (L ++ M) f = lfO L f ++ lfO M f := by simp [lfO]
theorem lfO_cons (p : On) (L : List On) (f : Int) : lfO (p :: L) f = (if p.1 = f then [p.2] else []) ++ lfO L f := by
  unfold lfO
  by_cases h : p.1 = f <;> simp [h]
theorem mem_lfO {L : List On} {f : Int} {y : Nat} : y ∈ lfO L f ↔ (f, y) ∈ L := by
  unfold lfO
  rw [List.mem_map]
  constructor
  · rintro ⟨p, hp, rfl⟩
    obtain ⟨h1, h2⟩ := List.mem_filter.1 hp
    have h2 : p.1 = f := by simpa using h2
    rw [← h2]; exact h1
  · intro h
    exact ⟨(f, y), List.mem_filter.2 ⟨h, by simp⟩, rfl⟩
structure Rel (most : Int) (Z : List Rw) (L : List On) : Prop where
  p : ∀ f, (lfO L f).Perm (idsOf Z f)
  c : ∀ f, (cntF L f : Int) ≤ max most 1
theorem Rel.start (most : Int) : Rel most [] [] := ⟨fun f => .refl _, fun f => by show ((0 : Nat) : Int) ≤ _; omega⟩
theorem set_perm (L : List On) (k id : Nat) (f : Int) (hk : k < L.length) (hf : L[k].1 = f) : (lfO (L.set k (f, id)) f ++ [L[k].2]).Perm (lfO L f ++ [id]) ∧ ∀ g, g ≠ f → lfO (L.set k (f, id)) g = lfO L g := by
  obtain ⟨A, q, B, e, hA⟩ : ∃ A q B, L = A ++ q :: B ∧ A.length = k := ⟨L.take k, L[k], L.drop (k + 1), by rw [← List.drop_eq_getElem_cons hk, List.take_append_drop], by rw [List.length_take]; omega⟩
  subst hA
  subst e
  have hq : (A ++ q :: B)[A.length] = q := by simp
  rw [hq] at hf ⊢
  have hs : (A ++ q :: B).set A.length (f, id) = A ++ (f, id) :: B := by simp
  rw [hs]
  constructor
  · rw [lfO_append, lfO_append, lfO_cons, lfO_cons, if_pos rfl, if_pos hf]
    rw [List.perm_iff_count]
    intro a
    simp only [List.count_append]
    omega
  · intro g hg
    rw [lfO_append, lfO_append, lfO_cons, lfO_cons, if_neg (fun h => hg h.symm), if_neg (fun h => hg (h.symm.trans hf))]
/-- One call on both. -/
theorem Rel.step {most f : Int} {Z R : List Rw} {L L' : List On} {x x' : Rw} {id : Nat} {b b' : Bool} (h : Rel most Z L) (hx : x.fr = f) (hx' : x'.fr = f) (hZ : Z.Perm (x :: R) ∨ (x.ids = [] ∧ R = Z ∧ ∀ y ∈ Z, y.fr ≠ f)) (hR : ∀ y ∈ R, y.fr ≠ f)
    (hc : Chg most x.ids id b x'.ids) (hr : RChg most L f id b' L') : b = b' ∧ Rel most (x' :: R) L' := by
  have hl : (lfO L f).Perm x.ids := by
    refine (h.p f).trans ?_
    rcases hZ with h1 | ⟨h1, h2, h3⟩
    · refine (idsOf_perm h1 f).trans ?_
      rw [idsOf_cons, if_pos hx, idsOf_none hR, List.append_nil]
    · rw [idsOf_none h3, h1]
  have hg : ∀ g, g ≠ f → (lfO L g).Perm (idsOf R g) := fun g hne => by
    refine (h.p g).trans ?_
    rcases hZ with h1 | ⟨h1, h2, h3⟩
    · refine (idsOf_perm h1 g).trans ?_
      rw [idsOf_cons, if_neg (fun e => hne (e.symm.trans hx))]
      exact .refl _
    · rw [h2]
  have hcn : (cntF L f : Int) = (x.ids.length : Int) := by rw [← lfO_len, hl.length_eq]
  have hcap := h.c f
  have hin : ∀ y, (f, y) ∈ L ↔ y ∈ x.ids := fun y => by rw [← mem_lfO, hl.mem_iff]
  have hno : NoM L f id ↔ id ∉ x.ids := by
    rw [← hin id]
    constructor
    · intro hn hm
      obtain ⟨k, hk, e⟩ := List.getElem_of_mem hm
      exact hn k hk (by rw [e]) (by rw [e])
    · intro hn k hk h1 h2
      exact hn (by rw [← h1, ← h2]; exact List.getElem_mem hk)
  have hmin : ∀ k (hk : k < L.length), Lst L f k hk → ∀ m ∈ x.ids, (∀ y ∈ x.ids, m ≤ y) → m = L[k].2 := fun k hk hL m hm hle => by
    have h1 : L[k].2 ∈ x.ids := (hin _).1 (by rw [← hL.1]; exact List.getElem_mem hk)
    have h2 := hle _ h1
    obtain ⟨j, hj, e⟩ := List.getElem_of_mem ((hin m).2 hm)
    have h3 := hL.2 j hj (by rw [e])
    rw [e] at h3
    have h3 : L[k].2 ≤ m := h3
    omega
  have hout : ∀ L2 : List On, (∀ g, g ≠ f → lfO L2 g = lfO L g) → (lfO L2 f).Perm x'.ids → (cntF L2 f : Int) ≤ max most 1 → Rel most (x' :: R) L2 := fun L2 h1 h2 h3 => by
    refine ⟨fun g => ?_, fun g => ?_⟩
    · rw [idsOf_cons]
      by_cases e : g = f
      · subst e
        rw [if_pos hx', idsOf_none hR, List.append_nil]
        exact h2
      · rw [if_neg (fun q => e (q.symm.trans hx')), h1 g e]
        exact hg g e
    · by_cases e : g = f
      · rw [e]; exact h3
      · rw [← lfO_len, h1 g e, lfO_len]; exact h.c g
  rcases hc with ⟨rfl, hl', hw⟩ | ⟨rfl, hn1, hnf, hp⟩ | ⟨rfl, hn1, hfu, m, hm, hle, hnl, hp⟩
  · rcases hr with ⟨rfl, eL, _⟩ | ⟨_, hno', hful, k, hk, hL, hnl, _⟩ | ⟨_, hno', hful, _⟩
    · rw [eL]
      exact ⟨rfl, hout L (fun _ _ => rfl) (by rw [hl']; exact hl) hcap⟩
    · exfalso
      rcases hw with hw | ⟨_, m, hm, hle, hlt⟩
      · exact (hno.1 hno') hw
      · have := hmin k hk hL m hm hle
        omega
    · exfalso
      rcases hw with hw | ⟨hw, _⟩
      · exact (hno.1 hno') hw
      · omega
  · rcases hr with ⟨_, _, hw⟩ | ⟨_, hno', hful, _⟩ | ⟨rfl, hno', hful, rfl⟩
    · exfalso
      rcases hw with ⟨k, hk, e⟩ | ⟨hw, _⟩
      · exact hn1 ((hin id).1 (by rw [← e]; exact List.getElem_mem hk))
      · omega
    · omega
    · refine ⟨rfl, hout _ (fun g hne => ?_) ?_ ?_⟩
      · rw [lfO_append, lfO_cons, if_neg (fun q => hne q.symm)]; simp [lfO]
      · rw [lfO_append, lfO_cons, if_pos rfl]
        refine List.Perm.trans ?_ hp.symm
        simpa [lfO] using hl.append_right [id]
      · rw [← lfO_len, lfO_append, lfO_cons, if_pos rfl, List.length_append, lfO_len]
        simp [lfO]
        omega
  · rcases hr with ⟨_, _, hw⟩ | ⟨rfl, hno', hful, k, hk, hL, _, rfl⟩ | ⟨_, hno', hful, _⟩
    · exfalso
      rcases hw with ⟨k, hk, e⟩ | ⟨_, k, hk, hL, hlt⟩
      · exact hn1 ((hin id).1 (by rw [← e]; exact List.getElem_mem hk))
      · have := hmin k hk hL m hm hle
        omega
    · obtain ⟨s1, s2⟩ := set_perm L k id f hk hL.1
      have hmk := hmin k hk hL m hm hle
      refine ⟨rfl, hout _ s2 ?_ ?_⟩
      · rw [hmk] at hp
        have : (lfO (L.set k (f, id)) f ++ [L[k].2]).Perm (x'.ids ++ [L[k].2]) := s1.trans ((hl.append_right [id]).trans hp.symm)
        exact (List.perm_append_right_iff _).1 this
      · rw [← lfO_len]
        have := s1.length_eq
        simp only [List.length_append, List.length_singleton, lfO_len] at this
        rw [lfO_len]
        omega
    · exfalso; omega
end Go.Proofs.Ytnkllgpibmofiaa
