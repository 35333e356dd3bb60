/- Schemas, aggregators, rows of them and what one has, that came in, as the row's reading opens them. -/
import Derived.Test.YtkoihniggoelnaaRMay2
import Derived.OpenShut
import Derived.SliceStrings
import Derived.SizedLaws
namespace Go.Proofs.Ytkoihniggoelnaa
open Go.RowKit Go.ChangeShapes Go.WideShapes

section
variable {H : Type} {enc : TypeId × Value → H} {W : World} {fuel : Nat} {cs : List Value} {x : DataW H × List MemPlace}

theorem strs_in {a : Addr} {len cap : Nat} {ss : List ByteArray} (hl : len ≤ cap) (hm : cap ≤ maxLen) (hz : ss.length = cap) (hc : ∀ i, i < ss.length → W.cell? (a.add i) = some (.string (ss.getD i ByteArray.empty))) :
    Rds W (.slice (some a) len cap) (sv ((ss.take len).map (·.data.toList))) := by
  have e : sv ((ss.take len).map (·.data.toList)) = (ss.take len).map Value.string := by
    unfold sv
    rw [List.map_map]
    apply List.map_congr_left
    intro s _
    simp only [Function.comp]
  rw [e]
  refine ⟨some a, cap, by simp; omega, by simp; omega, hm, (fun h => by cases h), ?_⟩
  rintro ad ⟨rfl⟩ j u hj
  simp only [List.getElem?_map, List.getElem?_take] at hj
  split at hj
  · next hjl =>
    have hz' : j < ss.length := by omega
    rw [List.getElem?_eq_getElem hz'] at hj
    simp only [Option.map_some, Option.some.injEq] at hj
    subst hj
    rw [hc j hz']
    simp [hz']
  · simp at hj
/-- A slice of texts. -/
theorem dims_in (h : DataW.trod enc Try.prog W 0 (fun _ => true) true fuel 28 cs = some x) (hw : ∀ n ∈ x.1.weights Try.prog 28, n ≤ reachBytes) :
    ∃ v ds, cs = [v] ∧ Rds W v (sv ds) ∧ ds.length * 16 ≤ 140737488351232 := by
  rcases open_strings Try.underlying28 Try.underlying9 (by kernel_rfl) h with ⟨rfl, _⟩ | ⟨a, len, cap, ss, rfl, _, hl, hm, hz, rfl, hcell, _⟩
  · exact ⟨_, [], rfl, Rds.nil W, by simp⟩
  · have hz' : ss.length = cap := by simpa using hz
    refine ⟨_, _, rfl, strs_in hl hm hz' hcell, ?_⟩
    have := hw (((strs (H := H) (ss.take len)).length + (strs (H := H) (ss.drop len)).length) * 16) (by
      have e : Try.prog.bytesOf 9 = 16 := by kernel_rfl
      simp [DataW.weights, Try.underlying28, e])
    simp only [strs, List.length_map, List.length_take, List.length_drop, reachBytes] at this ⊢
    omega
theorem two {l : List Value} (h : l.length = 2) : ∃ a b, l = [a, b] := by
  match l, h with
  | [a, b], _ => exact ⟨a, b, rfl⟩
theorem three {l : List Value} (h : l.length = 3) : ∃ a b c, l = [a, b, c] := by
  match l, h with
  | [a, b, c], _ => exact ⟨a, b, c, rfl⟩
/-- Two numbers. -/
theorem pair_in {t : TypeId} {f0 f1 : Field} {ti : TypeId} (ht : Try.prog.underlying t = some (.struct #[f0, f1])) (hi : Try.prog.underlying ti = some (.int .i64)) (hc : Try.prog.cellsOf t = 2) (hci : Try.prog.cellsOf ti = 1)
    (h0 : f0.type = ti ∧ f0.offset = 0) (h1 : f1.type = ti ∧ f1.offset = 1) (h : DataW.trod enc Try.prog W 0 (fun _ => true) true fuel t cs = some x) : ∃ a b : Int, cs = [.int .i64 a, .int .i64 b] := by
  obtain ⟨xs, n, rfl, rfl, hl, hxs, hf⟩ := DataW.trod_struct ht h
  obtain ⟨c0, c1, rfl⟩ := two (hl.trans hc)
  have hx2 : xs.length = 2 := hxs
  obtain ⟨x0, x1, rfl⟩ : ∃ a b, xs = [a, b] := by
    match xs, hx2 with
    | [a, b], _ => exact ⟨a, b, rfl⟩
  have k0 : DataW.trod enc Try.prog W 0 (fun _ => true) true n f0.type (([c0, c1].drop f0.offset).take (Try.prog.cellsOf f0.type)) = some x0 := hf 0 _ rfl
  have k1 : DataW.trod enc Try.prog W 0 (fun _ => true) true n f1.type (([c0, c1].drop f1.offset).take (Try.prog.cellsOf f1.type)) = some x1 := hf 1 _ rfl
  rw [h0.1, h0.2, hci] at k0
  rw [h1.1, h1.2, hci] at k1
  have k0 : DataW.trod enc Try.prog W 0 (fun _ => true) true n ti [c0] = some x0 := k0
  have k1 : DataW.trod enc Try.prog W 0 (fun _ => true) true n ti [c1] = some x1 := k1
  obtain ⟨a, ha, _, _⟩ := DataW.trod_int hi k0
  obtain ⟨b, hb, _, _⟩ := DataW.trod_int hi k1
  simp only [List.cons.injEq, and_true] at ha hb
  subst ha hb
  exact ⟨a, b, rfl⟩
theorem weightsAll_mem {P : Program} {e : TypeId} : ∀ {l : List (DataW H)} {d : DataW H}, d ∈ l → ∀ n ∈ d.weights P e, n ∈ DataW.weightsAll P e l
  | a :: l, d, hd, n, hn => by
    simp only [DataW.weightsAll, List.mem_append]
    rcases List.mem_cons.1 hd with rfl | hd
    · exact .inl hn
    · exact .inr (weightsAll_mem hd n hn)
/-- What the elements of a slice read as, one by one. -/
theorem pick_all {α : Type} (Q : Nat → α → Prop) : ∀ (n : Nat), (∀ i, i < n → ∃ a, Q i a) → ∃ l : List α, l.length = n ∧ ∀ i (hi : i < l.length), Q i l[i]
  | 0, _ => ⟨[], rfl, fun i hi => by simp at hi⟩
  | n + 1, h => by
    obtain ⟨l, hl, hq⟩ := pick_all Q n fun i hi => h i (by omega)
    obtain ⟨a, ha⟩ := h n (by omega)
    refine ⟨l ++ [a], by simp [hl], fun i hi => ?_⟩
    by_cases hin : i < l.length
    · rw [List.getElem_append_left hin]; exact hq i hin
    · have : i = n := by simp at hi; omega
      subst this
      rw [List.getElem_append_right (by omega)]
      simpa using ha
theorem add_add (a : Addr) (i j : Nat) : (a.add i).add j = a.add (i + j) := by
  by_cases hi : i = 0
  · subst hi; simp [Addr.add]
  · by_cases hj : j = 0
    · subst hj; simp [Addr.add]
    · simp [Addr.add, hi, hj, Nat.add_assoc]
/-- A slice of aggregators. -/
theorem aggs_in (h : DataW.trod enc Try.prog W 0 (fun _ => true) true fuel 24 cs = some x) (hw : ∀ n ∈ x.1.weights Try.prog 24, n ≤ reachBytes) :
    ∃ v l, cs = [v] ∧ RdsK 2 W v l.length (av l) ∧ l.length * 16 ≤ 140737488351232 := by
  rcases DataW.trod_slice Try.underlying24 h with ⟨rfl, _⟩ | ⟨a, len, cap, elems, rest, n, rfl, rfl, rfl, _, hl, hm, hlen, hel, _, _⟩
  · exact ⟨_, [], rfl, RdsK.nil 2 W, by simp⟩
  · have e4 : Try.prog.cellsOf 26 = 2 := by kernel_rfl
    have e64 : Try.prog.bytesOf 26 = 16 := by kernel_rfl
    rw [e4] at hel
    obtain ⟨l, hll, hq⟩ := pick_all (fun i (e : Int × Int) => ∀ c v, ([Value.int .i64 e.1, .int .i64 e.2] : List Value)[c]? = some v → W.cell? (a.add (i * 2 + c)) = some v) len fun i hi => by
      have hE := hel i hi
      have hi' : i < elems.length := by omega
      rw [List.getElem?_eq_getElem hi', Option.bind_eq_some_iff] at hE
      obtain ⟨c1, hc1, hy⟩ := hE
      obtain ⟨e1, e2, he⟩ := pair_in Try.underlying26 Try.underlying3 (by kernel_rfl) (by kernel_rfl) ⟨rfl, rfl⟩ ⟨rfl, rfl⟩ hy
      refine ⟨(e1, e2), fun c v hv => ?_⟩
      obtain ⟨_, _, hcell⟩ := World.cells?_some hc1
      rw [← add_add]
      have hc : c < 2 := by have := (List.getElem?_eq_some_iff.1 hv).1; simpa using this
      rw [hcell c hc, he]
      exact hv
    have hbytes := hw ((elems.length + rest.length) * 16) (by simp [DataW.weights, Try.underlying24, e64])
    refine ⟨_, l, rfl, ⟨some a, cap, by rw [hll], by rw [av_length], by omega, hm, (fun h => by cases h), ?_⟩, ?_⟩
    · rintro ad ⟨rfl⟩ j u hj
      have hj4 : j < l.length * 2 := by have := (List.getElem?_eq_some_iff.1 hj).1; rwa [av_length] at this
      obtain ⟨g1, g2⟩ := av_get l (j / 2) (by omega)
      have := hq (j / 2) (by omega) (j % 2) u (by
        have hm : j % 2 = 0 ∨ j % 2 = 1 := by omega
        rcases hm with hm | hm
        · rw [hm]
          rw [show j = j / 2 * 2 by omega, g1] at hj
          simpa using hj
        · rw [hm]
          rw [show j = j / 2 * 2 + 1 by omega, g2] at hj
          simpa using hj)
      rwa [show j / 2 * 2 + j % 2 = j by omega] at this
    · simp only [reachBytes] at hbytes
      omega
/-- What an aggregator has. -/
theorem partial_in (h : DataW.trod enc Try.prog W 0 (fun _ => true) true fuel 30 cs = some x) (hw : ∀ n ∈ x.1.weights Try.prog 30, n ≤ reachBytes) :
    ∃ p : Pt, cs = [.int .u64 p.n, .int .i64 p.v, p.tv] ∧ p.Ok W ∧ 0 ≤ p.n := by
  obtain ⟨xs, n, rfl, rfl, hl, hxs, hf⟩ := DataW.trod_struct Try.underlying30 h
  have hl3 : cs.length = 3 := hl.trans (by kernel_rfl)
  obtain ⟨c0, c1, c2, rfl⟩ := three hl3
  have hx3 : xs.length = 3 := hxs
  obtain ⟨x0, x1, x2, rfl⟩ : ∃ a b c, xs = [a, b, c] := by
    match xs, hx3 with
    | [a, b, c], _ => exact ⟨a, b, c, rfl⟩
  have e0 : Try.prog.cellsOf 27 = 1 := by kernel_rfl
  have e2 : Try.prog.cellsOf 2 = 1 := by kernel_rfl
  have eD : Try.prog.cellsOf 28 = 1 := by kernel_rfl
  have h0 : DataW.trod enc Try.prog W 0 (fun _ => true) true n 27 (([c0, c1, c2].drop 0).take (Try.prog.cellsOf 27)) = some x0 := hf 0 _ rfl
  have h1 : DataW.trod enc Try.prog W 0 (fun _ => true) true n 2 (([c0, c1, c2].drop 1).take (Try.prog.cellsOf 2)) = some x1 := hf 1 _ rfl
  have h2 : DataW.trod enc Try.prog W 0 (fun _ => true) true n 28 (([c0, c1, c2].drop 2).take (Try.prog.cellsOf 28)) = some x2 := hf 2 _ rfl
  rw [e0] at h0
  rw [e2] at h1
  rw [eD] at h2
  have h0 : DataW.trod enc Try.prog W 0 (fun _ => true) true n 27 [c0] = some x0 := h0
  have h1 : DataW.trod enc Try.prog W 0 (fun _ => true) true n 2 [c1] = some x1 := h1
  have h2 : DataW.trod enc Try.prog W 0 (fun _ => true) true n 28 [c2] = some x2 := h2
  obtain ⟨N, h0', _, wN⟩ := DataW.trod_int Try.underlying27 h0
  obtain ⟨V, h1', _, _⟩ := DataW.trod_int Try.underlying2 h1
  have hw' : ∀ n ∈ DataW.weightsEach Try.prog [27, 2, 28] [x0.1, x1.1, x2.1], n ≤ reachBytes := fun n hn => hw n (by simpa [DataW.weights, Try.underlying30] using hn)
  obtain ⟨vD, ds, hD, rD, bD⟩ := dims_in h2 fun n hn => hw' n (DataW.weights_mem_each (j := 2) rfl rfl n hn)
  simp only [List.cons.injEq, and_true] at h0' h1' hD
  subst h0' h1' hD
  have hN : 0 ≤ N := (bounds_u64 wN).1
  exact ⟨⟨N, V, c2, ds⟩, rfl, ⟨rD⟩, hN⟩
end
end Go.Proofs.Ytkoihniggoelnaa
