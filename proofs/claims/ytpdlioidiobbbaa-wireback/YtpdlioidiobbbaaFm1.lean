/- What the texts of filter hold, over this program's numbers. -/
import Derived.Test.YtpdlioidiobbbaaFm0
namespace Go.Proofs.Ytpdlioidiobbbaa.Fi
open Go.RowKit Go.Sort Go.ChangeShapes Go.WideShapes
set_option maxRecDepth 100000

/-- A fact as it lies in memory: its time, the values of its two slices, and what these read as. -/
structure Fc where
  t : Int
  dv : Value
  mv : Value
  ds : List Str
  ms : List Int
def Fc.cells (f : Fc) : List Value := [.int .i64 f.t, f.dv, f.mv]
structure Fc.Ok (w : World) (f : Fc) : Prop where
  rd : Rds w f.dv (sv f.ds)
  rm : Rds w f.mv (iv f.ms)
theorem Fc.Ok.up {w w' : World} {f : Fc} (h : f.Ok w) (hb : Below w.heap.size w w') : f.Ok w' := ⟨h.rd.below hb, h.rm.below hb⟩
theorem Fc.Ok.lens {w : World} {f : Fc} (h : f.Ok w) : ∃ ad nd cd am nm cm, f.dv = .slice ad nd cd ∧ f.mv = .slice am nm cm ∧ nd = f.ds.length ∧ nm = f.ms.length ∧ nd ≤ cd ∧ cd ≤ maxLen ∧ nm ≤ cm ∧ cm ≤ maxLen ∧
    (0 < f.ds.length → ∃ b off, ad = some ⟨b, off, none⟩ ∧ ∀ i, i < f.ds.length → w.cell? ⟨b, off + i, none⟩ = some (.string ⟨(f.ds.getD i []).toArray⟩)) ∧
    (0 < f.ms.length → ∃ b off, am = some ⟨b, off, none⟩ ∧ ∀ i, i < f.ms.length → w.cell? ⟨b, off + i, none⟩ = some (.int .i64 (f.ms.getD i 0))) := by
  obtain ⟨ad, nd, cd, e1⟩ := h.rd.sl
  obtain ⟨am, nm, cm, e2⟩ := h.rm.sl
  have k1 := h.rd
  have k2 := h.rm
  rw [e1] at k1
  rw [e2] at k2
  obtain ⟨a1, a2, a3, a4⟩ := k1.cells
  obtain ⟨b1, b2, b3, b4⟩ := k2.cells
  rw [sv_length] at a1 a2 a4
  rw [iv_length] at b1 b2 b4
  refine ⟨ad, nd, cd, am, nm, cm, e1, e2, a1, b1, by omega, a3, by omega, b3, fun h0 => ?_, fun h0 => ?_⟩
  · obtain ⟨b, off, e, hc⟩ := a4 h0
    exact ⟨b, off, e, fun i hi => hc i _ (sv_get _ i hi)⟩
  · obtain ⟨b, off, e, hc⟩ := b4 h0
    exact ⟨b, off, e, fun i hi => hc i _ (iv_get _ i hi)⟩
/-- Their texts are no more than memory reaches. -/
inductive Tr.Lim : Tr → Prop
  | mk {t : Tr} (h : t.ts.length * 16 ≤ 140737488351232) (k : ∀ c ∈ t.ks, Tr.Lim c) : Tr.Lim t
theorem Tr.Lim.len {t : Tr} (h : t.Lim) : t.ts.length * 16 ≤ 140737488351232 := by cases h; assumption
theorem Tr.Lim.kid {t : Tr} (h : t.Lim) : ∀ c ∈ t.ks, c.Lim := by cases h; assumption
section
variable {H : Type} {enc : TypeId × Value → H} {W : World} {fuel : Nat} {cs : List Value} {x : DataW H × List MemPlace}

theorem strs_in {a : Addr} {len cap : Nat} {ss : List ByteArray} (hl : len ≤ cap) (hm : cap ≤ maxLen) (hz : ss.length = cap) (hc : ∀ i, i < ss.length → W.cell? (a.add i) = some (.string (ss.getD i ByteArray.empty))) :
    Rds W (.slice (some a) len cap) (sv ((ss.take len).map (·.data.toList))) := by
  have e : sv ((ss.take len).map (·.data.toList)) = (ss.take len).map Value.string := by
    unfold sv
    rw [List.map_map]
    apply List.map_congr_left
    intro s _
    simp only [Function.comp]
  rw [e]
  refine ⟨some a, cap, by simp; omega, by simp; omega, hm, (fun h => by cases h), ?_⟩
  rintro ad ⟨rfl⟩ j u hj
  simp only [List.getElem?_map, List.getElem?_take] at hj
  split at hj
  · next hjl =>
    have hz' : j < ss.length := by omega
    rw [List.getElem?_eq_getElem hz'] at hj
    simp only [Option.map_some, Option.some.injEq] at hj
    subst hj
    rw [hc j hz']
    simp [hz']
  · simp at hj
theorem ints_in {a : Addr} {len cap : Nat} {zs : List Int} (hl : len ≤ cap) (hm : cap ≤ maxLen) (hz : zs.length = cap) (hc : ∀ i, i < zs.length → W.cell? (a.add i) = some (.int .i64 (zs.getD i 0))) :
    Rds W (.slice (some a) len cap) (iv (zs.take len)) := by
  refine ⟨some a, cap, ?_, ?_, hm, (fun h => by cases h), ?_⟩
  · simp [iv]; omega
  · simp [iv]; omega
  · rintro ad ⟨rfl⟩ j u hj
    simp only [iv, List.getElem?_map, List.getElem?_take] at hj
    split at hj
    · next hjl =>
      have hz : j < zs.length := by omega
      rw [List.getElem?_eq_getElem hz] at hj
      simp only [Option.map_some, Option.some.injEq] at hj
      subst hj
      rw [hc j hz]
      simp [hz]
    · simp at hj
/-- A slice of texts. -/
theorem dims_in (h : DataW.trod enc Try.prog W 0 (fun _ => true) true fuel 24 cs = some x) (hw : ∀ n ∈ x.1.weights Try.prog 24, n ≤ reachBytes) :
    ∃ v ds, cs = [v] ∧ Rds W v (sv ds) ∧ ds.length * 16 ≤ 140737488351232 := by
  rcases open_strings Try.underlying24 Try.underlying9 (by kernel_rfl) h with ⟨rfl, _⟩ | ⟨a, len, cap, ss, rfl, _, hl, hm, hz, rfl, hcell, _⟩
  · exact ⟨_, [], rfl, Rds.nil W, by simp⟩
  · have hz' : ss.length = cap := by simpa using hz
    refine ⟨_, _, rfl, strs_in hl hm hz' hcell, ?_⟩
    have := hw (((strs (H := H) (ss.take len)).length + (strs (H := H) (ss.drop len)).length) * 16) (by
      have e : Try.prog.bytesOf 9 = 16 := by kernel_rfl
      simp [DataW.weights, Try.underlying24, e])
    simp only [strs, List.length_map, List.length_take, List.length_drop, reachBytes] at this ⊢
    omega
/-- A slice of numbers. -/
theorem meas_in (h : DataW.trod enc Try.prog W 0 (fun _ => true) true fuel 25 cs = some x) (hw : ∀ n ∈ x.1.weights Try.prog 25, n ≤ reachBytes) :
    ∃ v ms, cs = [v] ∧ Rds W v (iv ms) ∧ ms.length * 8 ≤ 140737488351232 := by
  rcases open_ints Try.underlying25 Try.underlying2 (by kernel_rfl) h with ⟨rfl, _⟩ | ⟨a, len, cap, zs, rfl, _, hl, hm, hz, rfl, hcell, _⟩
  · exact ⟨_, [], rfl, Rds.nil W, by simp⟩
  · have hz' : zs.length = cap := by simpa using hz
    refine ⟨_, _, rfl, ints_in hl hm hz' hcell, ?_⟩
    have := hw (((lits (H := H) .i64 (zs.take len)).length + (lits (H := H) .i64 (zs.drop len)).length) * 8) (by
      have e : Try.prog.bytesOf 2 = 8 := by kernel_rfl
      simp [DataW.weights, Try.underlying25, e])
    simp only [lits, List.length_map, List.length_take, List.length_drop, reachBytes] at this ⊢
    omega
theorem three {l : List Value} (h : l.length = 3) : ∃ a b c, l = [a, b, c] := by
  match l, h with
  | [a, b, c], _ => exact ⟨a, b, c, rfl⟩
theorem two {l : List Value} (h : l.length = 2) : ∃ a b, l = [a, b] := by
  match l, h with
  | [a, b], _ => exact ⟨a, b, rfl⟩
/-- A fact. -/
theorem fact_in (h : DataW.trod enc Try.prog W 0 (fun _ => true) true fuel 27 cs = some x) (hw : ∀ n ∈ x.1.weights Try.prog 27, n ≤ reachBytes) :
    ∃ f : Fc, cs = f.cells ∧ f.Ok W := by
  obtain ⟨xs, n, rfl, rfl, hl, hxs, hf⟩ := DataW.trod_struct Try.underlying27 h
  have hl3 : cs.length = 3 := hl.trans (by kernel_rfl)
  obtain ⟨c0, c1, c2, rfl⟩ := three hl3
  have hx3 : xs.length = 3 := hxs
  obtain ⟨x0, x1, x2, rfl⟩ : ∃ a b c, xs = [a, b, c] := by
    match xs, hx3 with
    | [a, b, c], _ => exact ⟨a, b, c, rfl⟩
  have e2 : Try.prog.cellsOf 2 = 1 := by kernel_rfl
  have eD : Try.prog.cellsOf 24 = 1 := by kernel_rfl
  have eM : Try.prog.cellsOf 25 = 1 := by kernel_rfl
  have h0 : DataW.trod enc Try.prog W 0 (fun _ => true) true n 2 (([c0, c1, c2].drop 0).take (Try.prog.cellsOf 2)) = some x0 := hf 0 _ rfl
  have h1 : DataW.trod enc Try.prog W 0 (fun _ => true) true n 24 (([c0, c1, c2].drop 1).take (Try.prog.cellsOf 24)) = some x1 := hf 1 _ rfl
  have h2 : DataW.trod enc Try.prog W 0 (fun _ => true) true n 25 (([c0, c1, c2].drop 2).take (Try.prog.cellsOf 25)) = some x2 := hf 2 _ rfl
  rw [e2] at h0
  rw [eD] at h1
  rw [eM] at h2
  have h0 : DataW.trod enc Try.prog W 0 (fun _ => true) true n 2 [c0] = some x0 := h0
  have h1 : DataW.trod enc Try.prog W 0 (fun _ => true) true n 24 [c1] = some x1 := h1
  have h2 : DataW.trod enc Try.prog W 0 (fun _ => true) true n 25 [c2] = some x2 := h2
  obtain ⟨t, h0', _, _⟩ := DataW.trod_int Try.underlying2 h0
  have hw' : ∀ n ∈ DataW.weightsEach Try.prog [2, 24, 25] [x0.1, x1.1, x2.1], n ≤ reachBytes := fun n hn => hw n (by simpa [DataW.weights, Try.underlying27] using hn)
  obtain ⟨vD, ds, hD, rD, bD⟩ := dims_in h1 fun n hn => hw' n (DataW.weights_mem_each (j := 1) rfl rfl n hn)
  obtain ⟨vM, ms, hM, rM, bM⟩ := meas_in h2 fun n hn => hw' n (DataW.weights_mem_each (j := 2) rfl rfl n hn)
  simp only [List.cons.injEq, and_true] at h0' hD hM
  subst h0' hD hM
  exact ⟨⟨t, c1, c2, ds, ms⟩, rfl, rD, rM⟩
theorem weightsAll_mem {P : Program} {e : TypeId} : ∀ {l : List (DataW H)} {d : DataW H}, d ∈ l → ∀ n ∈ d.weights P e, n ∈ DataW.weightsAll P e l
  | a :: l, d, hd, n, hn => by
    simp only [DataW.weightsAll, List.mem_append]
    rcases List.mem_cons.1 hd with rfl | hd
    · exact .inl hn
    · exact .inr (weightsAll_mem hd n hn)
/-- What the elements of a slice read as, one by one. -/
theorem pick_all {α : Type} (Q : Nat → α → Prop) : ∀ (n : Nat), (∀ i, i < n → ∃ a, Q i a) → ∃ l : List α, l.length = n ∧ ∀ i (hi : i < l.length), Q i l[i]
  | 0, _ => ⟨[], rfl, fun i hi => by simp at hi⟩
  | n + 1, h => by
    obtain ⟨l, hl, hq⟩ := pick_all Q n fun i hi => h i (by omega)
    obtain ⟨a, ha⟩ := h n (by omega)
    refine ⟨l ++ [a], by simp [hl], fun i hi => ?_⟩
    by_cases hin : i < l.length
    · rw [List.getElem_append_left hin]; exact hq i hin
    · have : i = n := by simp at hi; omega
      subst this
      rw [List.getElem_append_right (by omega)]
      simpa using ha
theorem add_add (a : Addr) (i j : Nat) : (a.add i).add j = a.add (i + j) := by
  by_cases hi : i = 0
  · subst hi; simp [Addr.add]
  · by_cases hj : j = 0
    · subst hj; simp [Addr.add]
    · simp [Addr.add, hi, hj, Nat.add_assoc]
theorem six {l : List Value} (h : l.length = 6) : ∃ a b c d e f, l = [a, b, c, d, e, f] := by
  match l, h with
  | [a, b, c, d, e, f], _ => exact ⟨a, b, c, d, e, f, rfl⟩
set_option maxRecDepth 100000 in
/-- A filter, all the way down. -/
theorem filter_in : ∀ (fuel : Nat) (cs : List Value) (x : DataW H × List MemPlace), DataW.trod enc Try.prog W 0 (fun _ => true) true fuel 32 cs = some x →
    (∀ n ∈ x.1.weights Try.prog 32, n ≤ reachBytes) → ∃ t : Tr, cs = t.cells ∧ t.Ok W ∧ t.Lim := by
  intro fuel
  induction fuel using Nat.strongRecOn with
  | ind fuel ih =>
  intro cs x h hw
  obtain ⟨xs, n, rfl, rfl, hl, hxs, hf⟩ := DataW.trod_struct Try.underlying32 h
  have hl6 : cs.length = 6 := hl.trans (by kernel_rfl)
  obtain ⟨c0, c1, c2, c3, c4, c5, rfl⟩ := six hl6
  have hx6 : xs.length = 6 := hxs
  obtain ⟨x0, x1, x2, x3, x4, x5, rfl⟩ : ∃ a b c d e f, xs = [a, b, c, d, e, f] := by
    match xs, hx6 with
    | [a, b, c, d, e, f], _ => exact ⟨a, b, c, d, e, f, rfl⟩
  have eI : Try.prog.cellsOf 3 = 1 := by kernel_rfl
  have eJ : Try.prog.cellsOf 2 = 1 := by kernel_rfl
  have eD : Try.prog.cellsOf 24 = 1 := by kernel_rfl
  have eK : Try.prog.cellsOf 30 = 1 := by kernel_rfl
  have h0 : DataW.trod enc Try.prog W 0 (fun _ => true) true n 3 (([c0, c1, c2, c3, c4, c5].drop 0).take (Try.prog.cellsOf 3)) = some x0 := hf 0 _ rfl
  have h1 : DataW.trod enc Try.prog W 0 (fun _ => true) true n 3 (([c0, c1, c2, c3, c4, c5].drop 1).take (Try.prog.cellsOf 3)) = some x1 := hf 1 _ rfl
  have h2 : DataW.trod enc Try.prog W 0 (fun _ => true) true n 24 (([c0, c1, c2, c3, c4, c5].drop 2).take (Try.prog.cellsOf 24)) = some x2 := hf 2 _ rfl
  have h3 : DataW.trod enc Try.prog W 0 (fun _ => true) true n 2 (([c0, c1, c2, c3, c4, c5].drop 3).take (Try.prog.cellsOf 2)) = some x3 := hf 3 _ rfl
  have h4 : DataW.trod enc Try.prog W 0 (fun _ => true) true n 2 (([c0, c1, c2, c3, c4, c5].drop 4).take (Try.prog.cellsOf 2)) = some x4 := hf 4 _ rfl
  have h5 : DataW.trod enc Try.prog W 0 (fun _ => true) true n 30 (([c0, c1, c2, c3, c4, c5].drop 5).take (Try.prog.cellsOf 30)) = some x5 := hf 5 _ rfl
  rw [eI] at h0 h1
  rw [eJ] at h3 h4
  rw [eD] at h2
  rw [eK] at h5
  have h0 : DataW.trod enc Try.prog W 0 (fun _ => true) true n 3 [c0] = some x0 := h0
  have h1 : DataW.trod enc Try.prog W 0 (fun _ => true) true n 3 [c1] = some x1 := h1
  have h2 : DataW.trod enc Try.prog W 0 (fun _ => true) true n 24 [c2] = some x2 := h2
  have h3 : DataW.trod enc Try.prog W 0 (fun _ => true) true n 2 [c3] = some x3 := h3
  have h4 : DataW.trod enc Try.prog W 0 (fun _ => true) true n 2 [c4] = some x4 := h4
  have h5 : DataW.trod enc Try.prog W 0 (fun _ => true) true n 30 [c5] = some x5 := h5
  obtain ⟨z0, h0', _, _⟩ := DataW.trod_int Try.underlying3 h0
  obtain ⟨z1, h1', _, _⟩ := DataW.trod_int Try.underlying3 h1
  obtain ⟨z3, h3', _, _⟩ := DataW.trod_int Try.underlying2 h3
  obtain ⟨z4, h4', _, _⟩ := DataW.trod_int Try.underlying2 h4
  have hw' : ∀ n ∈ DataW.weightsEach Try.prog [3, 3, 24, 2, 2, 30] [x0.1, x1.1, x2.1, x3.1, x4.1, x5.1], n ≤ reachBytes := fun n hn => hw n (by simpa [DataW.weights, Try.underlying32] using hn)
  obtain ⟨vD, ds, hD, rD, bD⟩ := dims_in h2 fun n hn => hw' n (DataW.weights_mem_each (j := 2) rfl rfl n hn)
  have hw5 : ∀ n ∈ x5.1.weights Try.prog 30, n ≤ reachBytes := fun n hn => hw' n (DataW.weights_mem_each (j := 5) rfl rfl n hn)
  obtain ⟨vK, ks, hK, rK, bK⟩ : ∃ v l, [c5] = [v] ∧ RdsT W v l ∧ ∀ c ∈ l, c.Lim := by
    rcases DataW.trod_slice Try.underlying30 h5 with ⟨hn, _⟩ | ⟨a, len, cap, elems, rest, m, rfl, hv, rfl, _, hl, hm, hlen, hel, _, _⟩
    · exact ⟨_, [], hn, RdsT.nil W, fun _ h => by cases h⟩
    · have e4 : Try.prog.cellsOf 32 = 6 := by kernel_rfl
      rw [e4] at hel
      have hwe : ∀ d ∈ elems.map (·.1), ∀ k ∈ d.weights Try.prog 32, k ≤ reachBytes := fun d hd k hk => hw5 k (by
        simp only [DataW.weights, Try.underlying30, List.mem_cons, List.mem_append]
        exact .inr (.inl (weightsAll_mem hd k hk)))
      obtain ⟨l, hll, hq⟩ := pick_all (fun i (e : Tr) => (e.Ok W ∧ e.Lim) ∧ ∀ c v, e.cells[c]? = some v → W.cell? (a.add (i * 6 + c)) = some v) len fun i hi => by
        have hE := hel i hi
        have hi' : i < elems.length := by omega
        rw [List.getElem?_eq_getElem hi', Option.bind_eq_some_iff] at hE
        obtain ⟨c1, hc1, hy⟩ := hE
        obtain ⟨e, he, hok⟩ := ih _ (by omega) _ _ hy (hwe _ (List.mem_map.2 ⟨_, List.getElem_mem hi', rfl⟩))
        refine ⟨e, hok, fun c v hv => ?_⟩
        obtain ⟨_, _, hcell⟩ := World.cells?_some hc1
        rw [← add_add]
        have hc : c < 6 := by have := (List.getElem?_eq_some_iff.1 hv).1; simpa [Tr.cells] using this
        rw [hcell c hc, he]
        exact hv
      refine ⟨_, l, hv, ⟨⟨some a, cap, by rw [hll], by rw [tvs_length], by omega, hm, (fun h => by cases h), ?_⟩, fun e he => ?_⟩, fun e he => ?_⟩
      · rintro ad ⟨rfl⟩ j u hj
        have hj4 : j < l.length * 6 := by have := (List.getElem?_eq_some_iff.1 hj).1; rwa [tvs_length] at this
        have e := tvs_get l (j / 6) (j % 6) (by omega) (by omega)
        rw [show j / 6 * 6 + j % 6 = j by omega, hj] at e
        have := (hq (j / 6) (by omega)).2 (j % 6) u e.symm
        rwa [show j / 6 * 6 + j % 6 = j by omega] at this
      · obtain ⟨i, hi, rfl⟩ := List.getElem_of_mem he
        exact (hq i hi).1.1
      · obtain ⟨i, hi, rfl⟩ := List.getElem_of_mem he
        exact (hq i hi).1.2
  simp only [List.cons.injEq, and_true] at h0' h1' h3' h4' hD hK
  subst h0' h1' h3' h4' hD hK
  exact ⟨.mk z0 z1 c2 ds z3 z4 c5 ks, rfl, .mk rD rK.r rK.ok, .mk bD bK⟩
/-- Two numbers. -/
theorem pair_in {t : TypeId} {f0 f1 : Field} {ti : TypeId} (ht : Try.prog.underlying t = some (.struct #[f0, f1])) (hi : Try.prog.underlying ti = some (.int .i64)) (hc : Try.prog.cellsOf t = 2) (hci : Try.prog.cellsOf ti = 1)
    (h0 : f0.type = ti ∧ f0.offset = 0) (h1 : f1.type = ti ∧ f1.offset = 1) (h : DataW.trod enc Try.prog W 0 (fun _ => true) true fuel t cs = some x) : ∃ a b : Int, cs = [.int .i64 a, .int .i64 b] := by
  obtain ⟨xs, n, rfl, rfl, hl, hxs, hf⟩ := DataW.trod_struct ht h
  obtain ⟨c0, c1, rfl⟩ := two (hl.trans hc)
  have hx2 : xs.length = 2 := hxs
  obtain ⟨x0, x1, rfl⟩ : ∃ a b, xs = [a, b] := by
    match xs, hx2 with
    | [a, b], _ => exact ⟨a, b, rfl⟩
  have k0 : DataW.trod enc Try.prog W 0 (fun _ => true) true n f0.type (([c0, c1].drop f0.offset).take (Try.prog.cellsOf f0.type)) = some x0 := hf 0 _ rfl
  have k1 : DataW.trod enc Try.prog W 0 (fun _ => true) true n f1.type (([c0, c1].drop f1.offset).take (Try.prog.cellsOf f1.type)) = some x1 := hf 1 _ rfl
  rw [h0.1, h0.2, hci] at k0
  rw [h1.1, h1.2, hci] at k1
  have k0 : DataW.trod enc Try.prog W 0 (fun _ => true) true n ti [c0] = some x0 := k0
  have k1 : DataW.trod enc Try.prog W 0 (fun _ => true) true n ti [c1] = some x1 := k1
  obtain ⟨a, ha, _, _⟩ := DataW.trod_int hi k0
  obtain ⟨b, hb, _, _⟩ := DataW.trod_int hi k1
  simp only [List.cons.injEq, and_true] at ha hb
  subst ha hb
  exact ⟨a, b, rfl⟩
end

end Go.Proofs.Ytpdlioidiobbbaa.Fi
