/- Segments and spans that came in, as the row's reading opens them. -/
import Derived.Test.YtgbmigfamefenaaMad
import Derived.OpenShut
import Derived.SliceStrings
import Derived.SizedLaws
namespace Go.Proofs.Ytgbmigfamefenaa
open Go.RowKit Go.ChangeShapes Go.WideShapes
set_option linter.unusedVariables false

def In64 (x : Int) : Prop := -9223372036854775808 ≤ x ∧ x ≤ 9223372036854775807
section
variable {H : Type} {enc : TypeId × Value → H} {W : World} {fuel : Nat} {cs : List Value} {x : DataW H × List MemPlace}

theorem two {α : Type} {l : List α} (h : l.length = 2) : ∃ a b, l = [a, b] := by
  match l, h with
  | [a, b], _ => exact ⟨a, b, rfl⟩
theorem four {α : Type} {l : List α} (h : l.length = 4) : ∃ a b c d, l = [a, b, c, d] := by
  match l, h with
  | [a, b, c, d], _ => exact ⟨a, b, c, d, rfl⟩
theorem five {α : Type} {l : List α} (h : l.length = 5) : ∃ a b c d e, l = [a, b, c, d, e] := by
  match l, h with
  | [a, b, c, d, e], _ => exact ⟨a, b, c, d, e, rfl⟩
/-- Two numbers. -/
theorem pair_in {t : TypeId} {f0 f1 : Field} {ti : TypeId} (ht : Try.prog.underlying t = some (.struct #[f0, f1])) (hi : Try.prog.underlying ti = some (.int .i64)) (hc : Try.prog.cellsOf t = 2) (hci : Try.prog.cellsOf ti = 1)
    (h0 : f0.type = ti ∧ f0.offset = 0) (h1 : f1.type = ti ∧ f1.offset = 1) (h : DataW.trod enc Try.prog W 0 (fun _ => true) true fuel t cs = some x) : ∃ a : Int × Int, cs = [.int .i64 a.1, .int .i64 a.2] ∧ In64 a.1 ∧ In64 a.2 := by
  obtain ⟨xs, n, rfl, rfl, hl, hxs, hf⟩ := DataW.trod_struct ht h
  obtain ⟨c0, c1, rfl⟩ := two (hl.trans hc)
  have hx2 : xs.length = 2 := hxs
  obtain ⟨x0, x1, rfl⟩ := two hx2
  have k0 : DataW.trod enc Try.prog W 0 (fun _ => true) true n f0.type (([c0, c1].drop f0.offset).take (Try.prog.cellsOf f0.type)) = some x0 := hf 0 _ rfl
  have k1 : DataW.trod enc Try.prog W 0 (fun _ => true) true n f1.type (([c0, c1].drop f1.offset).take (Try.prog.cellsOf f1.type)) = some x1 := hf 1 _ rfl
  rw [h0.1, h0.2, hci] at k0
  rw [h1.1, h1.2, hci] at k1
  have k0 : DataW.trod enc Try.prog W 0 (fun _ => true) true n ti [c0] = some x0 := k0
  have k1 : DataW.trod enc Try.prog W 0 (fun _ => true) true n ti [c1] = some x1 := k1
  obtain ⟨a, ha, _, wa⟩ := DataW.trod_int hi k0
  obtain ⟨b, hb, _, wb⟩ := DataW.trod_int hi k1
  simp only [List.cons.injEq, and_true] at ha hb
  subst ha hb
  exact ⟨(a, b), rfl, (by have := bounds_i64 wa; unfold In64; simp only; omega), (by have := bounds_i64 wb; unfold In64; simp only; omega)⟩
/-- A segment. -/
theorem seg_in {t : TypeId} {f0 f1 f2 f3 g0 g1 : Field} {ts ti tj : TypeId} (ht : Try.prog.underlying t = some (.struct #[f0, f1, f2, f3])) (hts : Try.prog.underlying ts = some (.struct #[g0, g1])) (hi : Try.prog.underlying ti = some (.int .i64)) (hj : Try.prog.underlying tj = some (.int .i64)) (hc : Try.prog.cellsOf t = 5) (hcs : Try.prog.cellsOf ts = 2) (hci : Try.prog.cellsOf ti = 1) (hcj : Try.prog.cellsOf tj = 1)
    (h0 : f0.type = ts ∧ f0.offset = 0) (h1 : f1.type = ti ∧ f1.offset = 2) (h2 : f2.type = ti ∧ f2.offset = 3) (h3 : f3.type = ti ∧ f3.offset = 4) (i0 : g0.type = tj ∧ g0.offset = 0) (i1 : g1.type = tj ∧ g1.offset = 1)
    (h : DataW.trod enc Try.prog W 0 (fun _ => true) true fuel t cs = some x) : ∃ g : Sg, cs = sgc g ∧ B5 g := by
  obtain ⟨xs, n, rfl, rfl, hl, hxs, hf⟩ := DataW.trod_struct ht h
  obtain ⟨c0, c1, c2, c3, c4, rfl⟩ := five (hl.trans hc)
  have hx4 : xs.length = 4 := hxs
  obtain ⟨x0, x1, x2, x3, rfl⟩ := four hx4
  have k0 : DataW.trod enc Try.prog W 0 (fun _ => true) true n f0.type (([c0, c1, c2, c3, c4].drop f0.offset).take (Try.prog.cellsOf f0.type)) = some x0 := hf 0 _ rfl
  have k1 : DataW.trod enc Try.prog W 0 (fun _ => true) true n f1.type (([c0, c1, c2, c3, c4].drop f1.offset).take (Try.prog.cellsOf f1.type)) = some x1 := hf 1 _ rfl
  have k2 : DataW.trod enc Try.prog W 0 (fun _ => true) true n f2.type (([c0, c1, c2, c3, c4].drop f2.offset).take (Try.prog.cellsOf f2.type)) = some x2 := hf 2 _ rfl
  have k3 : DataW.trod enc Try.prog W 0 (fun _ => true) true n f3.type (([c0, c1, c2, c3, c4].drop f3.offset).take (Try.prog.cellsOf f3.type)) = some x3 := hf 3 _ rfl
  rw [h0.1, h0.2, hcs] at k0
  rw [h1.1, h1.2, hci] at k1
  rw [h2.1, h2.2, hci] at k2
  rw [h3.1, h3.2, hci] at k3
  have k0 : DataW.trod enc Try.prog W 0 (fun _ => true) true n ts [c0, c1] = some x0 := k0
  have k1 : DataW.trod enc Try.prog W 0 (fun _ => true) true n ti [c2] = some x1 := k1
  have k2 : DataW.trod enc Try.prog W 0 (fun _ => true) true n ti [c3] = some x2 := k2
  have k3 : DataW.trod enc Try.prog W 0 (fun _ => true) true n ti [c4] = some x3 := k3
  obtain ⟨a, ha, ba1, ba2⟩ := pair_in hts hj hcs hcj i0 i1 k0
  obtain ⟨v, hv, _, wv⟩ := DataW.trod_int hi k1
  obtain ⟨p, hp, _, wp⟩ := DataW.trod_int hi k2
  obtain ⟨c, hcc, _, wc⟩ := DataW.trod_int hi k3
  simp only [List.cons.injEq, and_true] at ha hv hp hcc
  obtain ⟨rfl, rfl⟩ := ha
  subst hv hp hcc
  unfold In64 at ba1 ba2
  have e1 := bounds_i64 wv
  have e2 := bounds_i64 wp
  have e3 := bounds_i64 wc
  exact ⟨((a.1, a.2, v), p, c), rfl, ⟨⟨ba1.1, ba1.2, ba2.1, ba2.2, e1.1, e1.2⟩, e2.1, e2.2, e3.1, e3.2⟩⟩
/-- What the elements of a slice read as, one by one. -/
theorem pick_all {α : Type} (Q : Nat → α → Prop) : ∀ (n : Nat), (∀ i, i < n → ∃ a, Q i a) → ∃ l : List α, l.length = n ∧ ∀ i (hi : i < l.length), Q i l[i]
  | 0, _ => ⟨[], rfl, fun i hi => by simp at hi⟩
  | n + 1, h => by
    obtain ⟨l, hl, hq⟩ := pick_all Q n fun i hi => h i (by omega)
    obtain ⟨a, ha⟩ := h n (by omega)
    refine ⟨l ++ [a], by simp [hl], fun i hi => ?_⟩
    by_cases hin : i < l.length
    · rw [List.getElem_append_left hin]; exact hq i hin
    · have : i = n := by simp at hi; omega
      subst this
      rw [List.getElem_append_right (by omega)]
      simpa using ha
theorem add_add (a : Addr) (i j : Nat) : (a.add i).add j = a.add (i + j) := by
  by_cases hi : i = 0
  · subst hi; simp [Addr.add]
  · by_cases hj : j = 0
    · subst hj; simp [Addr.add]
    · simp [Addr.add, hi, hj, Nat.add_assoc]
/-- A slice of segments. -/
theorem segs_in (h : DataW.trod enc Try.prog W 0 (fun _ => true) true fuel 22 cs = some x) (hw : ∀ n ∈ x.1.weights Try.prog 22, n ≤ reachBytes) :
    ∃ v l, cs = [v] ∧ Sgr W v l ∧ (∀ g ∈ l, B5 g) ∧ l.length * 40 ≤ 140737488351232 := by
  rcases DataW.trod_slice Try.underlying22 h with ⟨rfl, _⟩ | ⟨a, len, cap, elems, rest, n, rfl, rfl, rfl, _, hl, hm, hlen, hel, _, _⟩
  · exact ⟨_, [], rfl, ⟨none, 0, rfl, Nat.le_refl _, Nat.zero_le _, fun h => by simp at h⟩, (fun _ h => by cases h), by simp⟩
  · have e4 : Try.prog.cellsOf 32 = 5 := by kernel_rfl
    have e64 : Try.prog.bytesOf 32 = 40 := by kernel_rfl
    rw [e4] at hel
    obtain ⟨l, hll, hq⟩ := pick_all (fun i (e : Sg) => B5 e ∧ ∀ c v, (sgc e)[c]? = some v → W.cell? (a.add (i * 5 + c)) = some v) len fun i hi => by
      have hE := hel i hi
      have hi' : i < elems.length := by omega
      rw [List.getElem?_eq_getElem hi', Option.bind_eq_some_iff] at hE
      obtain ⟨c1, hc1, hy⟩ := hE
      obtain ⟨e, he, hok⟩ := seg_in Try.underlying32 Try.underlying24 Try.underlying3 Try.underlying2 (by kernel_rfl) (by kernel_rfl) (by kernel_rfl) (by kernel_rfl) ⟨rfl, rfl⟩ ⟨rfl, rfl⟩ ⟨rfl, rfl⟩ ⟨rfl, rfl⟩ ⟨rfl, rfl⟩ ⟨rfl, rfl⟩ hy
      refine ⟨e, hok, fun c v hv => ?_⟩
      obtain ⟨_, _, hcell⟩ := World.cells?_some hc1
      rw [← add_add]
      have hc : c < 5 := by have := (List.getElem?_eq_some_iff.1 hv).1; simpa [sgc] using this
      rw [hcell c hc, he]
      exact hv
    have hbytes := hw ((elems.length + rest.length) * 40) (by simp [DataW.weights, Try.underlying22, e64])
    have hrk : RdsK 5 W (.slice (some a) len cap) l.length (sgcs l) := by
      refine ⟨some a, cap, by rw [hll], sgcs_length l, by omega, hm, (fun h => by cases h), ?_⟩
      rintro ad ⟨rfl⟩ j u hj
      have hj5 : j < l.length * 5 := by have := (List.getElem?_eq_some_iff.1 hj).1; rwa [sgcs_length] at this
      have e := flat_get sgc 5 sgc_len l (j / 5) (j % 5) (by omega) (by omega)
      rw [show j / 5 * 5 + j % 5 = j by omega] at e
      have hj' : (l.flatMap sgc)[j]? = some u := hj
      rw [hj'] at e
      have := (hq (j / 5) (by omega)).2 (j % 5) u e.symm
      rwa [show j / 5 * 5 + j % 5 = j by omega] at this
    refine ⟨_, l, rfl, ⟨hrk.segs⟩, fun e he => ?_, ?_⟩
    · obtain ⟨i, hi, rfl⟩ := List.getElem_of_mem he
      exact (hq i hi).1
    · simp only [reachBytes] at hbytes
      omega
end
end Go.Proofs.Ytgbmigfamefenaa
