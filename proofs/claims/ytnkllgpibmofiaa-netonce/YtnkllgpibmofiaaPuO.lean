/- NetOnce, purely: how often each message was sent, came, is under way. No walk stands here. -/
import Derived.Test.YtnkllgpibmofiaaMem
namespace Go.Proofs.Ytnkllgpibmofiaa
set_option linter.unusedVariables false

def upF (f : Nat → Int) (k : Nat) (v : Int) : Nat → Int := fun x => if x = k then v else f x
theorem upF_same (f : Nat → Int) (k : Nat) (v : Int) : upF f k v k = v := by simp [upF]
theorem upF_other (f : Nat → Int) {k x : Nat} (v : Int) (h : x ≠ k) : upF f k v x = f x := by simp [upF, h]
structure OInv (S i : Nat) (P : List Nat) (sf cf : Nat → Int) : Prop where
  r : ∀ x ∈ P, 1 ≤ x ∧ x ≤ S
  e : ∀ x, 1 ≤ x → x ≤ S → sf x = cf x + (P.count x : Int)
  z : ∀ x, S < x → cf x = 0
  c : ∀ x, 0 ≤ cf x ∧ cf x ≤ i
  s : S ≤ i
  l : P.length ≤ i
theorem OInv.start : OInv 0 0 [] (fun _ => 0) (fun _ => 0) := ⟨(fun _ h => by cases h), (fun x h1 h2 => by omega), (fun _ _ => rfl), (fun _ => ⟨Int.le_refl _, Int.le_refl _⟩), Nat.le_refl _, Nat.le_refl _⟩
theorem erase_count (P : List Nat) (k : Nat) (hk : k < P.length) (x : Nat) : (P.count x : Int) = ((P.eraseIdx k).count x : Int) + if P[k] = x then 1 else 0 := by
  have h : P.Perm (P[k] :: P.eraseIdx k) := by
    have e : P = P.take k ++ P[k] :: P.drop (k + 1) := by rw [← List.drop_eq_getElem_cons hk, List.take_append_drop]
    rw [List.eraseIdx_eq_take_drop_succ]
    refine (List.Perm.of_eq e).trans List.perm_middle
  rw [h.count_eq x, List.count_cons]
  by_cases e : P[k] = x <;> simp [e]
theorem OInv.up {S i : Nat} {P : List Nat} {sf cf : Nat → Int} (h : OInv S i P sf cf) : OInv S (i + 1) P sf cf := ⟨h.r, h.e, h.z, fun x => ⟨(h.c x).1, by have := (h.c x).2; omega⟩, by have := h.s; omega, by have := h.l; omega⟩
theorem OInv.send {S i : Nat} {P : List Nat} {sf cf : Nat → Int} (h : OInv S i P sf cf) : OInv (S + 1) (i + 1) (P ++ [S + 1]) (upF sf (S + 1) 1) cf := by
  refine ⟨fun x hx => ?_, fun x h1 h2 => ?_, fun x hx => h.z x (by omega), h.up.c, by have := h.s; omega, by rw [List.length_append]; have := h.l; simp; omega⟩
  · rcases List.mem_append.1 hx with hx | hx
    · have := h.r x hx; omega
    · simp at hx; omega
  · rw [List.count_append]
    by_cases e : x = S + 1
    · subst e
      have h0 : P.count (S + 1) = 0 := List.count_eq_zero.2 fun hm => by have := h.r _ hm; omega
      rw [upF_same, h.z _ (by omega), h0]
      simp
    · rw [upF_other _ _ e, h.e x h1 (by omega)]
      have : [S + 1].count x = 0 := List.count_eq_zero.2 fun hm => by simp at hm; omega
      rw [this]
      omega
theorem OInv.lose {S i : Nat} {P : List Nat} {sf cf : Nat → Int} (h : OInv S i P sf cf) (k : Nat) (hk : k < P.length) : OInv S (i + 1) (P.eraseIdx k) (upF sf P[k] (sf P[k] - 1)) cf := by
  refine ⟨fun x hx => h.r x (List.mem_of_mem_eraseIdx hx), fun x h1 h2 => ?_, h.z, h.up.c, by have := h.s; omega, by have := h.l; have := List.length_eraseIdx_le P k; omega⟩
  have hc := erase_count P k hk x
  have he := h.e x h1 h2
  by_cases e : x = P[k]
  · rw [e, upF_same]
    rw [e] at he hc
    rw [if_pos rfl] at hc
    omega
  · rw [upF_other _ _ e]
    rw [if_neg (fun q => e q.symm)] at hc
    omega
theorem OInv.twice {S i : Nat} {P : List Nat} {sf cf : Nat → Int} (h : OInv S i P sf cf) (k : Nat) (hk : k < P.length) : OInv S (i + 1) (P ++ [P[k]]) (upF sf P[k] (sf P[k] + 1)) cf := by
  refine ⟨fun x hx => ?_, fun x h1 h2 => ?_, h.z, h.up.c, by have := h.s; omega, by rw [List.length_append]; have := h.l; simp; omega⟩
  · rcases List.mem_append.1 hx with hx | hx
    · exact h.r x hx
    · simp at hx; rw [hx]; exact h.r _ (List.getElem_mem hk)
  · rw [List.count_append]
    have he := h.e x h1 h2
    by_cases e : x = P[k]
    · rw [e, upF_same]
      rw [e] at he
      simp
      omega
    · rw [upF_other _ _ e]
      have : [P[k]].count x = 0 := List.count_eq_zero.2 fun hm => by simp at hm; exact e hm
      rw [this]
      omega
theorem OInv.deliver {S i : Nat} {P : List Nat} {sf cf : Nat → Int} (h : OInv S i P sf cf) (k : Nat) (hk : k < P.length) : OInv S (i + 1) (P.eraseIdx k) sf (upF cf P[k] (cf P[k] + 1)) := by
  have hr := h.r _ (List.getElem_mem hk)
  refine ⟨fun x hx => h.r x (List.mem_of_mem_eraseIdx hx), fun x h1 h2 => ?_, fun x hx => ?_, fun x => ?_, by have := h.s; omega, by have := h.l; have := List.length_eraseIdx_le P k; omega⟩
  · have hc := erase_count P k hk x
    have he := h.e x h1 h2
    by_cases e : x = P[k]
    · rw [e, upF_same]
      rw [e] at he hc
      rw [if_pos rfl] at hc
      omega
    · rw [upF_other _ _ e]
      rw [if_neg (fun q => e q.symm)] at hc
      omega
  · rw [upF_other _ _ (by omega)]
    exact h.z x hx
  · have h1 := h.c x
    have h2 := h.c P[k]
    by_cases e : x = P[k]
    · rw [e, upF_same]; omega
    · rw [upF_other _ _ e]; omega
/-- When nothing is under way each message has come as often as it was sent. -/
theorem OInv.done {S i : Nat} {sf cf : Nat → Int} (h : OInv S i [] sf cf) (x : Nat) (h1 : 1 ≤ x) (h2 : x ≤ S) : cf x = sf x := by
  have := h.e x h1 h2
  simp at this
  exact this.symm
/-- What is stored lies within int64. -/
theorem OInv.bound {S i : Nat} {P : List Nat} {sf cf : Nat → Int} (h : OInv S i P sf cf) (x : Nat) (h1 : 1 ≤ x) (h2 : x ≤ S) : 0 ≤ sf x ∧ sf x ≤ 2 * i := by
  have h3 := h.e x h1 h2
  have h4 := h.c x
  have h5 := List.count_le_length (a := x) (l := P)
  have h6 := h.l
  omega
end Go.Proofs.Ytnkllgpibmofiaa
