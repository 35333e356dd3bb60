/- A schema and a query that came in, as the row's reading opens them. -/
import Derived.Test.YtiiihjihegilnaaGreatDoorFi3
import Derived.Test.YtiiihjihegilnaaGreatDoorQck
import Derived.OpenShut
import Derived.SliceStrings
import Derived.SizedLaws
namespace Go.Proofs.YtiiihjihegilnaaGreatDoor
open Go.RowKit Go.ChangeShapes Go.WideShapes

section
variable {H : Type} {enc : TypeId × Value → H} {W : World} {fuel : Nat} {cs : List Value} {x : DataW H × List MemPlace}

theorem ints_inQ {a : Addr} {len cap : Nat} {zs : List Int} (hl : len ≤ cap) (hm : cap ≤ maxLen) (hz : zs.length = cap) (hc : ∀ i, i < zs.length → W.cell? (a.add i) = some (.int .i64 (zs.getD i 0))) :
    Rds W (.slice (some a) len cap) (iv (zs.take len)) := by
  refine ⟨some a, cap, ?_, ?_, hm, (fun h => by cases h), ?_⟩
  · simp [iv]; omega
  · simp [iv]; omega
  · rintro ad ⟨rfl⟩ j u hj
    simp only [iv, List.getElem?_map, List.getElem?_take] at hj
    split at hj
    · next hjl =>
      have hz : j < zs.length := by omega
      rw [List.getElem?_eq_getElem hz] at hj
      simp only [Option.map_some, Option.some.injEq] at hj
      subst hj
      rw [hc j hz]
      simp [hz]
    · simp at hj
/-- A grouping set. -/
theorem set_in (h : DataW.trod enc Tryz.prog W 0 (fun _ => true) true fuel 55 cs = some x) : ∃ v ms, cs = [v] ∧ Rds W v (iv ms) := by
  rcases open_ints Tryz.underlying55 Tryz.underlying3 (by kernel_rfl) h with ⟨rfl, _⟩ | ⟨a, len, cap, zs, rfl, _, hl, hm, hz, rfl, hcell, _⟩
  · exact ⟨_, [], rfl, Rds.nil W⟩
  · have hz' : zs.length = cap := by simpa using hz
    exact ⟨_, _, rfl, ints_inQ hl hm hz' hcell⟩
/-- Grouping sets. -/
theorem sets_in (h : DataW.trod enc Tryz.prog W 0 (fun _ => true) true fuel 30 cs = some x) : ∃ v l, cs = [v] ∧ RdsS W v l := by
  rcases DataW.trod_slice Tryz.underlying30 h with ⟨rfl, _⟩ | ⟨a, len, cap, elems, rest, n, rfl, rfl, rfl, _, hl, hm, hlen, hel, _, _⟩
  · exact ⟨_, [], rfl, RdsK.nil 1 W, fun _ h => by cases h⟩
  · have e4 : Tryz.prog.cellsOf 55 = 1 := by kernel_rfl
    rw [e4] at hel
    obtain ⟨l, hll, hq⟩ := Fi.pick_all (fun i (e : St) => Rds W e.1 (iv e.2) ∧ W.cell? (a.add i) = some e.1) len fun i hi => by
      have hE := hel i hi
      have hi' : i < elems.length := by omega
      rw [List.getElem?_eq_getElem hi', Option.bind_eq_some_iff] at hE
      obtain ⟨c1, hc1, hy⟩ := hE
      obtain ⟨v, ms, he, hr⟩ := set_in hy
      refine ⟨(v, ms), hr, ?_⟩
      obtain ⟨_, _, hcell⟩ := World.cells?_some hc1
      have := hcell 0 (by omega)
      rw [he] at this
      simpa [Fi.add_add] using this
    refine ⟨_, l, rfl, ⟨some a, cap, by rw [hll], by simp, by omega, hm, (fun h => by cases h), ?_⟩, fun e he => ?_⟩
    · rintro ad ⟨rfl⟩ j u hj
      have hjl : j < l.length := by have := (List.getElem?_eq_some_iff.1 hj).1; simpa using this
      have := (hq j hjl).2
      simp [hjl] at hj
      rw [← hj]
      exact this
    · obtain ⟨i, hi, rfl⟩ := List.getElem_of_mem he
      exact (hq i hi).1
theorem agav_length (l : List (Int × Int)) : (Ag.av l).length = l.length * 2 := by
  induction l with
  | nil => rfl
  | cons a r ih => simp [Ag.av] at ih ⊢; omega
/-- A slice of aggregators. -/
theorem aggs_in (h : DataW.trod enc Tryz.prog W 0 (fun _ => true) true fuel 31 cs = some x) : ∃ v l, cs = [v] ∧ RdsK 2 W v l.length (Ag.av l) := by
  rcases DataW.trod_slice Tryz.underlying31 h with ⟨rfl, _⟩ | ⟨a, len, cap, elems, rest, n, rfl, rfl, rfl, _, hl, hm, hlen, hel, _, _⟩
  · exact ⟨_, [], rfl, RdsK.nil 2 W⟩
  · have e4 : Tryz.prog.cellsOf 67 = 2 := by kernel_rfl
    rw [e4] at hel
    obtain ⟨l, hll, hq⟩ := Fi.pick_all (fun i (e : Int × Int) => ∀ c v, ([Value.int .i64 e.1, .int .i64 e.2] : List Value)[c]? = some v → W.cell? (a.add (i * 2 + c)) = some v) len fun i hi => by
      have hE := hel i hi
      have hi' : i < elems.length := by omega
      rw [List.getElem?_eq_getElem hi', Option.bind_eq_some_iff] at hE
      obtain ⟨c1, hc1, hy⟩ := hE
      obtain ⟨e1, e2, he⟩ := Fi.pair_in Tryz.underlying67 Tryz.underlying3 (by kernel_rfl) (by kernel_rfl) ⟨rfl, rfl⟩ ⟨rfl, rfl⟩ hy
      refine ⟨(e1, e2), fun c v hv => ?_⟩
      obtain ⟨_, _, hcell⟩ := World.cells?_some hc1
      rw [← Fi.add_add]
      have hc : c < 2 := by have := (List.getElem?_eq_some_iff.1 hv).1; simpa using this
      rw [hcell c hc, he]
      exact hv
    refine ⟨_, l, rfl, ⟨some a, cap, by rw [hll], by rw [agav_length], by omega, hm, (fun h => by cases h), ?_⟩⟩
    rintro ad ⟨rfl⟩ j u hj
    have hj4 : j < l.length * 2 := by have := (List.getElem?_eq_some_iff.1 hj).1; rwa [agav_length] at this
    obtain ⟨g1, g2⟩ := Ag.av_get l (j / 2) (by omega)
    have := hq (j / 2) (by omega) (j % 2) u (by
      have hm : j % 2 = 0 ∨ j % 2 = 1 := by omega
      rcases hm with hm | hm
      · rw [hm]
        rw [show j = j / 2 * 2 by omega, g1] at hj
        simpa using hj
      · rw [hm]
        rw [show j = j / 2 * 2 + 1 by omega, g2] at hj
        simpa using hj)
    rwa [show j / 2 * 2 + j % 2 = j by omega] at this
/-- Two numbers, the first within its kind. -/
theorem pair_inU {t : TypeId} {f0 f1 : Field} {ti : TypeId} (ht : Tryz.prog.underlying t = some (.struct #[f0, f1])) (hi : Tryz.prog.underlying ti = some (.int .i64)) (hc : Tryz.prog.cellsOf t = 2) (hci : Tryz.prog.cellsOf ti = 1)
    (h0 : f0.type = ti ∧ f0.offset = 0) (h1 : f1.type = ti ∧ f1.offset = 1) (h : DataW.trod enc Tryz.prog W 0 (fun _ => true) true fuel t cs = some x) : ∃ a b : Int, cs = [.int .i64 a, .int .i64 b] ∧ a ≤ 9223372036854775807 := by
  obtain ⟨xs, n, rfl, rfl, hl, hxs, hf⟩ := DataW.trod_struct ht h
  obtain ⟨c0, c1, rfl⟩ := Fi.two (hl.trans hc)
  have hx2 : xs.length = 2 := hxs
  obtain ⟨x0, x1, rfl⟩ : ∃ a b, xs = [a, b] := by
    match xs, hx2 with
    | [a, b], _ => exact ⟨a, b, rfl⟩
  have k0 : DataW.trod enc Tryz.prog W 0 (fun _ => true) true n f0.type (([c0, c1].drop f0.offset).take (Tryz.prog.cellsOf f0.type)) = some x0 := hf 0 _ rfl
  have k1 : DataW.trod enc Tryz.prog W 0 (fun _ => true) true n f1.type (([c0, c1].drop f1.offset).take (Tryz.prog.cellsOf f1.type)) = some x1 := hf 1 _ rfl
  rw [h0.1, h0.2, hci] at k0
  rw [h1.1, h1.2, hci] at k1
  have k0 : DataW.trod enc Tryz.prog W 0 (fun _ => true) true n ti [c0] = some x0 := k0
  have k1 : DataW.trod enc Tryz.prog W 0 (fun _ => true) true n ti [c1] = some x1 := k1
  obtain ⟨a, ha, _, wa⟩ := DataW.trod_int hi k0
  obtain ⟨b, hb, _, _⟩ := DataW.trod_int hi k1
  simp only [List.cons.injEq, and_true] at ha hb
  subst ha hb
  have ba := bounds_i64 wa
  exact ⟨a, b, rfl, by omega⟩
theorem thirteen {l : List Value} (h : l.length = 13) : ∃ a b c d e f g i j k m n o, l = [a, b, c, d, e, f, g, i, j, k, m, n, o] := by
  match l, h with
  | [a, b, c, d, e, f, g, i, j, k, m, n, o], _ => exact ⟨a, b, c, d, e, f, g, i, j, k, m, n, o, rfl⟩
set_option maxRecDepth 100000 in
/-- A query. -/
theorem query_in (h : DataW.trod enc Tryz.prog W 0 (fun _ => true) true fuel 33 cs = some x) (hw : ∀ n ∈ x.1.weights Tryz.prog 33, n ≤ reachBytes) : ∃ q : Qm, cs = q.cells.toList ∧ q.Ok W := by
  obtain ⟨xs, n, rfl, rfl, hl, hxs, hf⟩ := DataW.trod_struct Tryz.underlying33 h
  have hl3 : cs.length = 13 := hl.trans (by kernel_rfl)
  obtain ⟨c0, c1, c2, c3, c4, c5, c6, c7, c8, c9, c10, c11, c12, rfl⟩ := thirteen hl3
  have hx3 : xs.length = 7 := hxs
  obtain ⟨x0, x1, x2, x3, x4, x5, x6, rfl⟩ : ∃ a b c d e f g, xs = [a, b, c, d, e, f, g] := by
    match xs, hx3 with
    | [a, b, c, d, e, f, g], _ => exact ⟨a, b, c, d, e, f, g, rfl⟩
  have eP : Tryz.prog.cellsOf 25 = 2 := by kernel_rfl
  have eF : Tryz.prog.cellsOf 29 = 6 := by kernel_rfl
  have eI : Tryz.prog.cellsOf 3 = 1 := by kernel_rfl
  have eJ : Tryz.prog.cellsOf 2 = 1 := by kernel_rfl
  have eS : Tryz.prog.cellsOf 30 = 1 := by kernel_rfl
  have eA : Tryz.prog.cellsOf 31 = 1 := by kernel_rfl
  have h0 : DataW.trod enc Tryz.prog W 0 (fun _ => true) true n 25 (([c0, c1, c2, c3, c4, c5, c6, c7, c8, c9, c10, c11, c12].drop 0).take (Tryz.prog.cellsOf 25)) = some x0 := hf 0 _ rfl
  have h1 : DataW.trod enc Tryz.prog W 0 (fun _ => true) true n 29 (([c0, c1, c2, c3, c4, c5, c6, c7, c8, c9, c10, c11, c12].drop 2).take (Tryz.prog.cellsOf 29)) = some x1 := hf 1 _ rfl
  have h2 : DataW.trod enc Tryz.prog W 0 (fun _ => true) true n 2 (([c0, c1, c2, c3, c4, c5, c6, c7, c8, c9, c10, c11, c12].drop 8).take (Tryz.prog.cellsOf 2)) = some x2 := hf 2 _ rfl
  have h3 : DataW.trod enc Tryz.prog W 0 (fun _ => true) true n 30 (([c0, c1, c2, c3, c4, c5, c6, c7, c8, c9, c10, c11, c12].drop 9).take (Tryz.prog.cellsOf 30)) = some x3 := hf 3 _ rfl
  have h4 : DataW.trod enc Tryz.prog W 0 (fun _ => true) true n 31 (([c0, c1, c2, c3, c4, c5, c6, c7, c8, c9, c10, c11, c12].drop 10).take (Tryz.prog.cellsOf 31)) = some x4 := hf 4 _ rfl
  have h5 : DataW.trod enc Tryz.prog W 0 (fun _ => true) true n 3 (([c0, c1, c2, c3, c4, c5, c6, c7, c8, c9, c10, c11, c12].drop 11).take (Tryz.prog.cellsOf 3)) = some x5 := hf 5 _ rfl
  have h6 : DataW.trod enc Tryz.prog W 0 (fun _ => true) true n 3 (([c0, c1, c2, c3, c4, c5, c6, c7, c8, c9, c10, c11, c12].drop 12).take (Tryz.prog.cellsOf 3)) = some x6 := hf 6 _ rfl
  rw [eP] at h0
  rw [eF] at h1
  rw [eJ] at h2
  rw [eS] at h3
  rw [eA] at h4
  rw [eI] at h5 h6
  have h0 : DataW.trod enc Tryz.prog W 0 (fun _ => true) true n 25 [c0, c1] = some x0 := h0
  have h1 : DataW.trod enc Tryz.prog W 0 (fun _ => true) true n 29 [c2, c3, c4, c5, c6, c7] = some x1 := h1
  have h2 : DataW.trod enc Tryz.prog W 0 (fun _ => true) true n 2 [c8] = some x2 := h2
  have h3 : DataW.trod enc Tryz.prog W 0 (fun _ => true) true n 30 [c9] = some x3 := h3
  have h4 : DataW.trod enc Tryz.prog W 0 (fun _ => true) true n 31 [c10] = some x4 := h4
  have h5 : DataW.trod enc Tryz.prog W 0 (fun _ => true) true n 3 [c11] = some x5 := h5
  have h6 : DataW.trod enc Tryz.prog W 0 (fun _ => true) true n 3 [c12] = some x6 := h6
  have hw' : ∀ n ∈ DataW.weightsEach Tryz.prog [25, 29, 2, 30, 31, 3, 3] [x0.1, x1.1, x2.1, x3.1, x4.1, x5.1, x6.1], n ≤ reachBytes := fun n hn => hw n (by simpa [DataW.weights, Tryz.underlying33] using hn)
  obtain ⟨F, T, e0⟩ := Fi.pair_in Tryz.underlying25 Tryz.underlying2 (by kernel_rfl) (by kernel_rfl) ⟨rfl, rfl⟩ ⟨rfl, rfl⟩ h0
  obtain ⟨t, e1, ht, _⟩ := Fi.filter_in n _ _ h1 fun n hn => hw' n (DataW.weights_mem_each (j := 1) rfl rfl n hn)
  obtain ⟨g, e2, _, _⟩ := DataW.trod_int Tryz.underlying2 h2
  obtain ⟨v3, ss, e3, r3⟩ := sets_in h3
  obtain ⟨v4, ag, e4, r4⟩ := aggs_in h4
  obtain ⟨G, e5, _, _⟩ := DataW.trod_int Tryz.underlying3 h5
  obtain ⟨R, e6, _, _⟩ := DataW.trod_int Tryz.underlying3 h6
  simp only [Fi.Tr.cells, List.cons.injEq, and_true] at e0 e1 e2 e3 e4 e5 e6
  obtain ⟨rfl, rfl⟩ := e0
  obtain ⟨rfl, rfl, rfl, rfl, rfl, rfl⟩ := e1
  subst e2 e3 e4 e5 e6
  exact ⟨⟨F, T, t, g, c9, ss, c10, ag, G, R⟩, rfl, ht, r3, r4⟩
end
end Go.Proofs.YtiiihjihegilnaaGreatDoor
