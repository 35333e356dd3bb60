/- Spans and rows of spans that came in, as the row's reading opens them. -/
import Derived.Test.YthijbpodkklcnaaNums
import Derived.OpenShut
import Derived.SliceStrings
import Derived.SizedLaws
namespace Go.Proofs.Ythijbpodkklcnaa
open Go.RowKit Go.ChangeShapes Go.WideShapes

section
variable {H : Type} {enc : TypeId × Value → H} {W : World} {fuel : Nat} {cs : List Value} {x : DataW H × List MemPlace}

theorem two {l : List Value} (h : l.length = 2) : ∃ a b, l = [a, b] := by
  match l, h with
  | [a, b], _ => exact ⟨a, b, rfl⟩
/-- Two numbers. -/
theorem pair_in {t : TypeId} {f0 f1 : Field} {ti : TypeId} (ht : Try.prog.underlying t = some (.struct #[f0, f1])) (hi : Try.prog.underlying ti = some (.int .i64)) (hc : Try.prog.cellsOf t = 2) (hci : Try.prog.cellsOf ti = 1)
    (h0 : f0.type = ti ∧ f0.offset = 0) (h1 : f1.type = ti ∧ f1.offset = 1) (h : DataW.trod enc Try.prog W 0 (fun _ => true) true fuel t cs = some x) : ∃ a : Sp, cs = [.int .i64 a.1, .int .i64 a.2] ∧ In64 a.1 ∧ In64 a.2 := by
  obtain ⟨xs, n, rfl, rfl, hl, hxs, hf⟩ := DataW.trod_struct ht h
  obtain ⟨c0, c1, rfl⟩ := two (hl.trans hc)
  have hx2 : xs.length = 2 := hxs
  obtain ⟨x0, x1, rfl⟩ : ∃ a b, xs = [a, b] := by
    match xs, hx2 with
    | [a, b], _ => exact ⟨a, b, rfl⟩
  have k0 : DataW.trod enc Try.prog W 0 (fun _ => true) true n f0.type (([c0, c1].drop f0.offset).take (Try.prog.cellsOf f0.type)) = some x0 := hf 0 _ rfl
  have k1 : DataW.trod enc Try.prog W 0 (fun _ => true) true n f1.type (([c0, c1].drop f1.offset).take (Try.prog.cellsOf f1.type)) = some x1 := hf 1 _ rfl
  rw [h0.1, h0.2, hci] at k0
  rw [h1.1, h1.2, hci] at k1
  have k0 : DataW.trod enc Try.prog W 0 (fun _ => true) true n ti [c0] = some x0 := k0
  have k1 : DataW.trod enc Try.prog W 0 (fun _ => true) true n ti [c1] = some x1 := k1
  obtain ⟨a, ha, _, wa⟩ := DataW.trod_int hi k0
  obtain ⟨b, hb, _, wb⟩ := DataW.trod_int hi k1
  simp only [List.cons.injEq, and_true] at ha hb
  subst ha hb
  exact ⟨(a, b), rfl, (by have := bounds_i64 wa; unfold In64; simp only; omega), (by have := bounds_i64 wb; unfold In64; simp only; omega)⟩
theorem weightsAll_mem {P : Program} {e : TypeId} : ∀ {l : List (DataW H)} {d : DataW H}, d ∈ l → ∀ n ∈ d.weights P e, n ∈ DataW.weightsAll P e l
  | a :: l, d, hd, n, hn => by
    simp only [DataW.weightsAll, List.mem_append]
    rcases List.mem_cons.1 hd with rfl | hd
    · exact .inl hn
    · exact .inr (weightsAll_mem hd n hn)
/-- What the elements of a slice read as, one by one. -/
theorem pick_all {α : Type} (Q : Nat → α → Prop) : ∀ (n : Nat), (∀ i, i < n → ∃ a, Q i a) → ∃ l : List α, l.length = n ∧ ∀ i (hi : i < l.length), Q i l[i]
  | 0, _ => ⟨[], rfl, fun i hi => by simp at hi⟩
  | n + 1, h => by
    obtain ⟨l, hl, hq⟩ := pick_all Q n fun i hi => h i (by omega)
    obtain ⟨a, ha⟩ := h n (by omega)
    refine ⟨l ++ [a], by simp [hl], fun i hi => ?_⟩
    by_cases hin : i < l.length
    · rw [List.getElem_append_left hin]; exact hq i hin
    · have : i = n := by simp at hi; omega
      subst this
      rw [List.getElem_append_right (by omega)]
      simpa using ha
theorem add_add (a : Addr) (i j : Nat) : (a.add i).add j = a.add (i + j) := by
  by_cases hi : i = 0
  · subst hi; simp [Addr.add]
  · by_cases hj : j = 0
    · subst hj; simp [Addr.add]
    · simp [Addr.add, hi, hj, Nat.add_assoc]
/-- A slice of rows. -/
theorem spans_in (h : DataW.trod enc Try.prog W 0 (fun _ => true) true fuel 28 cs = some x) (hw : ∀ n ∈ x.1.weights Try.prog 28, n ≤ reachBytes) :
    ∃ v l, cs = [v] ∧ RdP W v l ∧ (∀ s ∈ l, In64 s.1 ∧ In64 s.2) ∧ l.length * 16 ≤ 140737488351232 := by
  rcases DataW.trod_slice Try.underlying28 h with ⟨rfl, _⟩ | ⟨a, len, cap, elems, rest, n, rfl, rfl, rfl, _, hl, hm, hlen, hel, _, _⟩
  · exact ⟨_, [], rfl, RdP.nil W, (fun _ h => by cases h), by simp⟩
  · have e4 : Try.prog.cellsOf 23 = 2 := by kernel_rfl
    have e64 : Try.prog.bytesOf 23 = 16 := by kernel_rfl
    rw [e4] at hel
    obtain ⟨l, hll, hq⟩ := pick_all (fun i (e : Sp) => (In64 e.1 ∧ In64 e.2) ∧ ∀ c v, (pc e)[c]? = some v → W.cell? (a.add (i * 2 + c)) = some v) len fun i hi => by
      have hE := hel i hi
      have hi' : i < elems.length := by omega
      rw [List.getElem?_eq_getElem hi', Option.bind_eq_some_iff] at hE
      obtain ⟨c1, hc1, hy⟩ := hE
      obtain ⟨e, he, hok⟩ := pair_in Try.underlying23 Try.underlying2 (by kernel_rfl) (by kernel_rfl) ⟨rfl, rfl⟩ ⟨rfl, rfl⟩ hy
      refine ⟨e, hok, fun c v hv => ?_⟩
      obtain ⟨_, _, hcell⟩ := World.cells?_some hc1
      rw [← add_add]
      have hc : c < 2 := by have := (List.getElem?_eq_some_iff.1 hv).1; simpa [pc] using this
      rw [hcell c hc, he]
      exact hv
    have hbytes := hw ((elems.length + rest.length) * 16) (by simp [DataW.weights, Try.underlying28, e64])
    refine ⟨_, l, rfl, ⟨some a, cap, by rw [hll], by rw [pv_length], by omega, hm, (fun h => by cases h), ?_⟩, fun e he => ?_, ?_⟩
    · rintro ad ⟨rfl⟩ j u hj
      have hj4 : j < l.length * 2 := by have := (List.getElem?_eq_some_iff.1 hj).1; rwa [pv_length] at this
      have e := pv_get l (j / 2) (j % 2) (by omega) (by omega)
      rw [show j / 2 * 2 + j % 2 = j by omega, hj] at e
      have := (hq (j / 2) (by omega)).2 (j % 2) u e.symm
      rwa [show j / 2 * 2 + j % 2 = j by omega] at this
    · obtain ⟨i, hi, rfl⟩ := List.getElem_of_mem he
      exact (hq i hi).1
    · simp only [reachBytes] at hbytes
      omega
end
end Go.Proofs.Ythijbpodkklcnaa
