/- Rows of facts that came in, as the row's reading opens them. -/
import Derived.Test.YtkoihniggoelnaaRowIn
import Derived.Test.YtkoihniggoelnaaRgt0
namespace Go.Proofs.Ytkoihniggoelnaa
open Go.RowKit Go.ChangeShapes Go.WideShapes

section
variable {H : Type} {enc : TypeId × Value → H} {W : World} {fuel : Nat} {cs : List Value} {x : DataW H × List MemPlace}

theorem ints_in {a : Addr} {len cap : Nat} {zs : List Int} (hl : len ≤ cap) (hm : cap ≤ maxLen) (hz : zs.length = cap) (hc : ∀ i, i < zs.length → W.cell? (a.add i) = some (.int .i64 (zs.getD i 0))) :
    Rds W (.slice (some a) len cap) (iv (zs.take len)) := by
  refine ⟨some a, cap, ?_, ?_, hm, (fun h => by cases h), ?_⟩
  · simp [iv]; omega
  · simp [iv]; omega
  · rintro ad ⟨rfl⟩ j u hj
    simp only [iv, List.getElem?_map, List.getElem?_take] at hj
    split at hj
    · next hjl =>
      have hz : j < zs.length := by omega
      rw [List.getElem?_eq_getElem hz] at hj
      simp only [Option.map_some, Option.some.injEq] at hj
      subst hj
      rw [hc j hz]
      simp [hz]
    · simp at hj
/-- A slice of numbers. -/
theorem meas_in (h : DataW.trod enc Try.prog W 0 (fun _ => true) true fuel 45 cs = some x) (hw : ∀ n ∈ x.1.weights Try.prog 45, n ≤ reachBytes) :
    ∃ v ms, cs = [v] ∧ Rds W v (iv ms) ∧ ms.length * 8 ≤ 140737488351232 := by
  rcases open_ints Try.underlying45 Try.underlying2 (by kernel_rfl) h with ⟨rfl, _⟩ | ⟨a, len, cap, zs, rfl, _, hl, hm, hz, rfl, hcell, _⟩
  · exact ⟨_, [], rfl, Rds.nil W, by simp⟩
  · have hz' : zs.length = cap := by simpa using hz
    refine ⟨_, _, rfl, ints_in hl hm hz' hcell, ?_⟩
    have := hw (((lits (H := H) .i64 (zs.take len)).length + (lits (H := H) .i64 (zs.drop len)).length) * 8) (by
      have e : Try.prog.bytesOf 2 = 8 := by kernel_rfl
      simp [DataW.weights, Try.underlying45, e])
    simp only [lits, List.length_map, List.length_take, List.length_drop, reachBytes] at this ⊢
    omega
theorem four {l : List Value} (h : l.length = 4) : ∃ a b c d, l = [a, b, c, d] := by
  match l, h with
  | [a, b, c, d], _ => exact ⟨a, b, c, d, rfl⟩
/-- Two numbers, within the bounds of their kind. -/
theorem pair_in64 {t : TypeId} {f0 f1 : Field} {ti : TypeId} (ht : Try.prog.underlying t = some (.struct #[f0, f1])) (hi : Try.prog.underlying ti = some (.int .i64)) (hc : Try.prog.cellsOf t = 2) (hci : Try.prog.cellsOf ti = 1)
    (h0 : f0.type = ti ∧ f0.offset = 0) (h1 : f1.type = ti ∧ f1.offset = 1) (h : DataW.trod enc Try.prog W 0 (fun _ => true) true fuel t cs = some x) : ∃ a b : Int, cs = [.int .i64 a, .int .i64 b] ∧ In64 a ∧ In64 b := by
  obtain ⟨xs, n, rfl, rfl, hl, hxs, hf⟩ := DataW.trod_struct ht h
  obtain ⟨c0, c1, rfl⟩ := two (hl.trans hc)
  have hx2 : xs.length = 2 := hxs
  obtain ⟨x0, x1, rfl⟩ : ∃ a b, xs = [a, b] := by
    match xs, hx2 with
    | [a, b], _ => exact ⟨a, b, rfl⟩
  have k0 : DataW.trod enc Try.prog W 0 (fun _ => true) true n f0.type (([c0, c1].drop f0.offset).take (Try.prog.cellsOf f0.type)) = some x0 := hf 0 _ rfl
  have k1 : DataW.trod enc Try.prog W 0 (fun _ => true) true n f1.type (([c0, c1].drop f1.offset).take (Try.prog.cellsOf f1.type)) = some x1 := hf 1 _ rfl
  rw [h0.1, h0.2, hci] at k0
  rw [h1.1, h1.2, hci] at k1
  have k0 : DataW.trod enc Try.prog W 0 (fun _ => true) true n ti [c0] = some x0 := k0
  have k1 : DataW.trod enc Try.prog W 0 (fun _ => true) true n ti [c1] = some x1 := k1
  obtain ⟨a, ha, _, wa⟩ := DataW.trod_int hi k0
  obtain ⟨b, hb, _, wb⟩ := DataW.trod_int hi k1
  simp only [List.cons.injEq, and_true] at ha hb
  subst ha hb
  have ba := bounds_i64 wa
  have bb := bounds_i64 wb
  exact ⟨a, b, rfl, by unfold In64; omega, by unfold In64; omega⟩
/-- A fact. -/
theorem fact_in (h : DataW.trod enc Try.prog W 0 (fun _ => true) true fuel 47 cs = some x) (hw : ∀ n ∈ x.1.weights Try.prog 47, n ≤ reachBytes) :
    ∃ f : Fc, cs = f.cells ∧ f.Ok W := by
  obtain ⟨xs, n, rfl, rfl, hl, hxs, hf⟩ := DataW.trod_struct Try.underlying47 h
  have hl3 : cs.length = 3 := hl.trans (by kernel_rfl)
  obtain ⟨c0, c1, c2, rfl⟩ := three hl3
  have hx3 : xs.length = 3 := hxs
  obtain ⟨x0, x1, x2, rfl⟩ : ∃ a b c, xs = [a, b, c] := by
    match xs, hx3 with
    | [a, b, c], _ => exact ⟨a, b, c, rfl⟩
  have e2 : Try.prog.cellsOf 2 = 1 := by kernel_rfl
  have eD : Try.prog.cellsOf 28 = 1 := by kernel_rfl
  have eM : Try.prog.cellsOf 45 = 1 := by kernel_rfl
  have h0 : DataW.trod enc Try.prog W 0 (fun _ => true) true n 2 (([c0, c1, c2].drop 0).take (Try.prog.cellsOf 2)) = some x0 := hf 0 _ rfl
  have h1 : DataW.trod enc Try.prog W 0 (fun _ => true) true n 28 (([c0, c1, c2].drop 1).take (Try.prog.cellsOf 28)) = some x1 := hf 1 _ rfl
  have h2 : DataW.trod enc Try.prog W 0 (fun _ => true) true n 45 (([c0, c1, c2].drop 2).take (Try.prog.cellsOf 45)) = some x2 := hf 2 _ rfl
  rw [e2] at h0
  rw [eD] at h1
  rw [eM] at h2
  have h0 : DataW.trod enc Try.prog W 0 (fun _ => true) true n 2 [c0] = some x0 := h0
  have h1 : DataW.trod enc Try.prog W 0 (fun _ => true) true n 28 [c1] = some x1 := h1
  have h2 : DataW.trod enc Try.prog W 0 (fun _ => true) true n 45 [c2] = some x2 := h2
  obtain ⟨t, h0', _, _⟩ := DataW.trod_int Try.underlying2 h0
  have hw' : ∀ n ∈ DataW.weightsEach Try.prog [2, 28, 45] [x0.1, x1.1, x2.1], n ≤ reachBytes := fun n hn => hw n (by simpa [DataW.weights, Try.underlying47] using hn)
  obtain ⟨vD, ds, hD, rD, bD⟩ := dims_in h1 fun n hn => hw' n (DataW.weights_mem_each (j := 1) rfl rfl n hn)
  obtain ⟨vM, ms, hM, rM, bM⟩ := meas_in h2 fun n hn => hw' n (DataW.weights_mem_each (j := 2) rfl rfl n hn)
  simp only [List.cons.injEq, and_true] at h0' hD hM
  subst h0' hD hM
  exact ⟨⟨t, c1, c2, ds, ms⟩, rfl, rD, rM⟩
/-- A fact, so often. -/
theorem many_in (h : DataW.trod enc Try.prog W 0 (fun _ => true) true fuel 49 cs = some x) (hw : ∀ n ∈ x.1.weights Try.prog 49, n ≤ reachBytes) :
    ∃ e : En, cs = e.cells ∧ e.f.Ok W := by
  obtain ⟨xs, n, rfl, rfl, hl, hxs, hf⟩ := DataW.trod_struct Try.underlying49 h
  have hl4 : cs.length = 4 := hl.trans (by kernel_rfl)
  obtain ⟨c0, c1, c2, c3, rfl⟩ := four hl4
  have hx2 : xs.length = 2 := hxs
  obtain ⟨x0, x1, rfl⟩ : ∃ a b, xs = [a, b] := by
    match xs, hx2 with
    | [a, b], _ => exact ⟨a, b, rfl⟩
  have eF : Try.prog.cellsOf 47 = 3 := by kernel_rfl
  have eN : Try.prog.cellsOf 27 = 1 := by kernel_rfl
  have h0 : DataW.trod enc Try.prog W 0 (fun _ => true) true n 47 (([c0, c1, c2, c3].drop 0).take (Try.prog.cellsOf 47)) = some x0 := hf 0 _ rfl
  have h1 : DataW.trod enc Try.prog W 0 (fun _ => true) true n 27 (([c0, c1, c2, c3].drop 3).take (Try.prog.cellsOf 27)) = some x1 := hf 1 _ rfl
  rw [eF] at h0
  rw [eN] at h1
  have h0 : DataW.trod enc Try.prog W 0 (fun _ => true) true n 47 [c0, c1, c2] = some x0 := h0
  have h1 : DataW.trod enc Try.prog W 0 (fun _ => true) true n 27 [c3] = some x1 := h1
  have hw' : ∀ n ∈ DataW.weightsEach Try.prog [47, 27] [x0.1, x1.1], n ≤ reachBytes := fun n hn => hw n (by simpa [DataW.weights, Try.underlying49] using hn)
  obtain ⟨f, hfc, hok⟩ := fact_in h0 fun n hn => hw' n (DataW.weights_mem_each (j := 0) rfl rfl n hn)
  obtain ⟨z, h1', _, hz⟩ := DataW.trod_int Try.underlying27 h1
  have hb := bounds_u64 hz
  simp only [Fc.cells, List.cons.injEq, and_true] at hfc h1'
  obtain ⟨rfl, rfl, rfl⟩ := hfc
  subst h1'
  have ez : ((z.toNat : Nat) : Int) = z := by omega
  refine ⟨⟨f, z.toNat⟩, ?_, hok⟩
  simp [En.cells, ez]

/-- A slice of rows. -/
theorem manys_in (h : DataW.trod enc Try.prog W 0 (fun _ => true) true fuel 36 cs = some x) (hw : ∀ n ∈ x.1.weights Try.prog 36, n ≤ reachBytes) :
    ∃ v l, cs = [v] ∧ RdsM W v l ∧ l.length * 64 ≤ 140737488351232 := by
  rcases DataW.trod_slice Try.underlying36 h with ⟨rfl, _⟩ | ⟨a, len, cap, elems, rest, n, rfl, rfl, rfl, _, hl, hm, hlen, hel, _, _⟩
  · exact ⟨_, [], rfl, RdsM.nil W, by simp⟩
  · have e4 : Try.prog.cellsOf 49 = 4 := by kernel_rfl
    have e64 : Try.prog.bytesOf 49 = 64 := by kernel_rfl
    rw [e4] at hel
    have hwe : ∀ d ∈ elems.map (·.1), ∀ k ∈ d.weights Try.prog 49, k ≤ reachBytes := fun d hd k hk => hw k (by
      simp only [DataW.weights, Try.underlying36, List.mem_cons, List.mem_append]
      exact .inr (.inl (weightsAll_mem hd k hk)))
    obtain ⟨l, hll, hq⟩ := pick_all (fun i (e : En) => e.f.Ok W ∧ ∀ c v, e.cells[c]? = some v → W.cell? (a.add (i * 4 + c)) = some v) len fun i hi => by
      have hE := hel i hi
      have hi' : i < elems.length := by omega
      rw [List.getElem?_eq_getElem hi', Option.bind_eq_some_iff] at hE
      obtain ⟨c1, hc1, hy⟩ := hE
      obtain ⟨e, he, hok⟩ := many_in hy (hwe _ (List.mem_map.2 ⟨_, List.getElem_mem hi', rfl⟩))
      refine ⟨e, hok, fun c v hv => ?_⟩
      obtain ⟨_, _, hcell⟩ := World.cells?_some hc1
      rw [← add_add]
      have hc : c < 4 := by have := (List.getElem?_eq_some_iff.1 hv).1; simpa [En.cells] using this
      rw [hcell c hc, he]
      exact hv
    have hbytes := hw ((elems.length + rest.length) * 64) (by simp [DataW.weights, Try.underlying36, e64])
    refine ⟨_, l, rfl, ⟨⟨some a, cap, by rw [hll], by rw [ev_length], by omega, hm, (fun h => by cases h), ?_⟩, fun e he => ?_⟩, ?_⟩
    · rintro ad ⟨rfl⟩ j u hj
      have hj4 : j < l.length * 4 := by have := (List.getElem?_eq_some_iff.1 hj).1; rwa [ev_length] at this
      have e := ev_get l (j / 4) (j % 4) (by omega) (by omega)
      rw [show j / 4 * 4 + j % 4 = j by omega, hj] at e
      have := (hq (j / 4) (by omega)).2 (j % 4) u e.symm
      rwa [show j / 4 * 4 + j % 4 = j by omega] at this
    · obtain ⟨i, hi, rfl⟩ := List.getElem_of_mem he
      exact (hq i hi).1
    · simp only [reachBytes] at hbytes
      omega
end
end Go.Proofs.Ytkoihniggoelnaa
