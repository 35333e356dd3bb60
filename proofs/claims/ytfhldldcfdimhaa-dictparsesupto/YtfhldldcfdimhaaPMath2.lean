/- What Parse reads: a text's entry, one behind the other. No walk stands here. -/
import Derived.Test.YtfhldldcfdimhaaPMath
import Derived.Test.YtfhldldcfdimhaaRdText
import Derived.Test.YtfhldldcfdimhaaByt
namespace Go.Proofs.Ytfhldldcfdimhaa

theorem drop_at {l a r : List UInt8} (h : l = a ++ r) : l.drop a.length = r := by rw [h]; simp
theorem tS_write (l r : List UInt8) (p : Nat) (t : Str) (h : l.drop p = Num.uv t.length ++ (t ++ r)) (ht : t.length < 2 ^ 64) : tS l p 0 = (t, p + (Num.uv t.length).length + t.length, 0) := by
  have h1 := Rd.uS_write l (t ++ r) p t.length h ht
  have h2 : l.drop (p + (Num.uv t.length).length) = t ++ r := by
    rw [← List.drop_drop, h]; simp
  have h3 : l.length - (p + (Num.uv t.length).length) = t.length + r.length := by
    have := congrArg List.length h2
    simpa using this
  have hc : cS l p 0 1 = (t.length, p + (Num.uv t.length).length, 0) := by
    unfold cS
    rw [h1, if_neg]
    rintro ⟨_, hx⟩
    simp only [lim, lf] at hx
    rw [if_neg (by omega)] at hx
    simp [h3] at hx
    omega
  unfold tS
  rw [hc, if_neg (by simp), h2]
  simp
/-- What one text more makes of a dictionary that is read. -/
def addS (ts : List Str) (same : Nat) (rest : Str) : Option (List Str) :=
  let a := prv ts ts.length
  if same ≤ a.length ∧ (ts = [] ∨ a < a.take same ++ rest) ∧ (a.take same ++ rest).length ≤ 64 ∧ cpl a (a.take same ++ rest) = same then some (ts ++ [a.take same ++ rest]) else none
/-- One round of Parse: where the reader is, its first error, the texts so far. -/
def stp (l : List UInt8) (x : Nat × Nat × Option (List Str)) : Nat × Nat × Option (List Str) :=
  let u := Rd.uS l x.1 x.2.1
  let t := tS l u.2.1 u.2.2
  (t.2.1, t.2.2, x.2.2.bind fun ts => addS ts u.1 t.1)
def rnd (l : List UInt8) (x : Nat × Nat × Option (List Str)) : Nat → Nat × Nat × Option (List Str)
  | 0 => x
  | k + 1 => stp l (rnd l x k)
theorem pcs_pre (ts : List Str) (k : Nat) : ∀ n, k ≤ n → ∃ r, pcs ts n = pcs ts k ++ r
  | 0, h => ⟨[], by rw [show k = 0 by omega]; simp⟩
  | n + 1, h => by
    rcases Nat.lt_or_eq_of_le h with h | rfl
    · obtain ⟨r, hr⟩ := pcs_pre ts k n (by omega)
      exact ⟨r ++ piece (prv ts n) (ts.getD n []), by rw [pcs_succ, hr, List.append_assoc]⟩
    · exact ⟨[], by simp⟩
theorem prv_take (ts : List Str) (k : Nat) (h : k ≤ ts.length) : prv (ts.take k) (ts.take k).length = prv ts k := by
  have e : (ts.take k).length = k := by simp; omega
  rw [e]
  cases k with
  | zero => rfl
  | succ j => simp [prv, List.getD]
theorem add_back {ts : List Str} (hr : Ris ts) (hf : ∀ t ∈ ts, t.length ≤ 64) (k : Nat) (h : k < ts.length) : addS (ts.take k) (cpl (prv ts k) (ts.getD k [])) ((ts.getD k []).drop (cpl (prv ts k) (ts.getD k []))) = some (ts.take (k + 1)) := by
  have e1 := prv_take ts k (by omega)
  have e2 : (prv ts k).take (cpl (prv ts k) (ts.getD k [])) ++ (ts.getD k []).drop (cpl (prv ts k) (ts.getD k [])) = ts.getD k [] := by rw [cpl_take, List.take_append_drop]
  have e3 : ts.take (k + 1) = ts.take k ++ [ts.getD k []] := by rw [getD_at h, List.take_succ_eq_append_getElem h]
  unfold addS
  simp only [e1, e2]
  rw [if_pos, e3]
  refine ⟨(cpl_le _ _).1, ?_, by rw [getD_at h]; exact hf _ (List.getElem_mem h), trivial⟩
  cases k with
  | zero => left; simp
  | succ j => right; rw [getD_at h]; simp only [prv]; rw [getD_at (show j < ts.length by omega)]; exact hr.get (by omega) h
/-- What is written is read as it was. -/
theorem rnd_back {ts : List Str} (hr : Ris ts) (hf : ∀ t ∈ ts, t.length ≤ 64) : ∀ k, k ≤ ts.length → rnd (byts ts) ((Num.uv ts.length).length, 0, some []) k = ((Num.uv ts.length ++ pcs ts k).length, 0, some (ts.take k))
  | 0, _ => by simp [rnd, pcs]
  | k + 1, h => by
    have ih := rnd_back hr hf k (by omega)
    rw [rnd, ih]
    obtain ⟨r, hp⟩ := pcs_pre ts (k + 1) ts.length h
    have hl : byts ts = (Num.uv ts.length ++ pcs ts k) ++ (piece (prv ts k) (ts.getD k []) ++ r) := by
      unfold byts; rw [hp, pcs_succ]; simp [List.append_assoc]
    have hd := drop_at hl
    obtain ⟨c, hc⟩ : ∃ c, c = cpl (prv ts k) (ts.getD k []) := ⟨_, rfl⟩
    have hk : k < ts.length := by omega
    have htl : (ts.getD k []).length ≤ 64 := by rw [getD_at hk]; exact hf _ (List.getElem_mem hk)
    have hcl := (cpl_le (prv ts k) (ts.getD k [])).2
    have hpc : piece (prv ts k) (ts.getD k []) = Num.uv c ++ (Num.uv ((ts.getD k []).drop c).length ++ (ts.getD k []).drop c) := by rw [List.length_drop, hc]; rfl
    rw [hpc] at hd
    have h1 := Rd.uS_write (byts ts) (Num.uv ((ts.getD k []).drop c).length ++ ((ts.getD k []).drop c ++ r)) _ c (by rw [hd]; simp [List.append_assoc]) (by omega)
    have h2 := tS_write (byts ts) r ((Num.uv ts.length ++ pcs ts k).length + (Num.uv c).length) ((ts.getD k []).drop c) (by rw [← List.drop_drop, hd]; simp [List.append_assoc]) (by rw [List.length_drop]; omega)
    have h3 := add_back hr hf k hk
    rw [← hc] at h3
    unfold stp
    simp only [h1, h2, Option.bind_some, h3]
    congr 1
    rw [pcs_succ, hpc]
    simp
    omega
end Go.Proofs.Ytfhldldcfdimhaa
