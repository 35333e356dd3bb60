/- Messages that came in, as the row's reading opens them, within the reach. -/
import Derived.Test.YtpdlioidiobbbaaRows
import Derived.Test.YtpdlioidiobbbaaRfp
import Derived.OpenShut
import Derived.SliceStrings
import Derived.SizedLaws
namespace Go.Proofs.Ytpdlioidiobbbaa
open Go.RowKit Go.ChangeShapes Go.WideShapes
set_option maxRecDepth 100000

/-- Nothing is told of how long bytes are. -/
def Le (_ : Bs) (_ : Nat) : Prop := True
theorem Le.app {a b : Bs} {p q : Nat} (_ : Le a p) (_ : Le b q) : Le (a ++ b) (p + q) := trivial
theorem Le.up {a : Bs} {p : Nat} (_ : Le a p) : Le a (p + 1) := trivial
theorem Le.zero {a : Bs} {p : Nat} (h : Le a p) : Le a (p + 0) := h
theorem Le.ei (k : Int) : Le (ei k) 1 := trivial
theorem Le.uv (n : Nat) : Le (Num.uv n) 1 := trivial
theorem Le.of {a b : Bs} {p : Nat} (h : Le a p) (e : a = b) : Le b p := e ▸ h
/-- Within the reach, as a value of the type t. -/
def Wt {H : Type} (t : TypeId) (d : DataW H) : Prop := ∀ n ∈ d.weights Try.prog t, n ≤ reachBytes
theorem weightsAll_mem {H : Type} {P : Program} {e : TypeId} : ∀ {l : List (DataW H)} {d : DataW H}, d ∈ l → ∀ n ∈ d.weights P e, n ∈ DataW.weightsAll P e l
  | a :: l, d, hd, n, hn => by
    simp only [DataW.weightsAll, List.mem_append]
    rcases List.mem_cons.1 hd with rfl | hd
    · exact .inl hn
    · exact .inr (weightsAll_mem hd n hn)
section
variable {H : Type} {enc : TypeId × Value → H} {W : World}
abbrev Td (enc : TypeId × Value → H) (W : World) (fuel : Nat) (t : TypeId) (cs : List Value) (x : DataW H × List MemPlace) : Prop := DataW.trod enc Try.prog W 0 (fun _ => true) true fuel t cs = some x
theorem i64_in {t : TypeId} (ht : Try.prog.underlying t = some (.int .i64)) {fuel : Nat} {cs : List Value} {x : DataW H × List MemPlace} (h : Td enc W fuel t cs x) : ∃ z : Int, cs = [.int .i64 z] ∧ In64 z ∧ Le (ei z) (Rows.uptoBulk x.1) := by
  obtain ⟨z, rfl, rfl, wf⟩ := DataW.trod_int ht h
  exact ⟨z, rfl, bounds_i64 wf, Le.ei z⟩
theorem u64_in {t : TypeId} (ht : Try.prog.underlying t = some (.int .u64)) {fuel : Nat} {cs : List Value} {x : DataW H × List MemPlace} (h : Td enc W fuel t cs x) : ∃ n : Nat, cs = [.int .u64 (n : Int)] ∧ InU n ∧ Le (Num.uv n) (Rows.uptoBulk x.1) := by
  obtain ⟨z, rfl, rfl, wf⟩ := DataW.trod_int ht h
  have b := bounds_u64 wf
  refine ⟨z.toNat, ?_, ?_, Le.uv _⟩
  · rw [Int.toNat_of_nonneg b.1]
  · unfold InU; omega
theorem bool_in {t : TypeId} (ht : Try.prog.underlying t = some .bool) {fuel : Nat} {cs : List Value} {x : DataW H × List MemPlace} (h : Td enc W fuel t cs x) : ∃ b : Bool, cs = [.bool b] ∧ Le (eb b) (Rows.uptoBulk x.1) := by
  obtain ⟨b, rfl, rfl⟩ := DataW.trod_bool ht h
  exact ⟨b, rfl, trivial⟩
theorem str_in {fuel : Nat} {cs : List Value} {x : DataW H × List MemPlace} (h : Td enc W fuel 9 cs x) (hb : Wt 9 x.1) : ∃ t : Fi.Str, cs = cl_str t ∧ t.length ≤ 140737488351232 ∧ Le (et t) (Rows.uptoBulk x.1) := by
  obtain ⟨s, rfl, rfl, hs⟩ := DataW.trod_string Try.underlying9 h
  have hw := hb s.data.toList.length (by simp [DataW.weights])
  exact ⟨s.data.toList, rfl, hw, trivial⟩
/-- A row of items. -/
theorem lst_in {α : Type} (k : Nat) (f : α → List Value) (g : α → Bs) (te : TypeId) (Ok : α → Prop) (hk : ∀ a, (f a).length = k) (hk0 : 0 < k) (hc : Try.prog.cellsOf te = k) {ts : TypeId} (ht : Try.prog.underlying ts = some (.slice te)) {fuel : Nat}
    (hel : ∀ n, n < fuel → ∀ cs x, Td enc W n te cs x → Wt te x.1 → ∃ a, cs = f a ∧ Ok a ∧ Le (g a) (Rows.uptoBulk x.1)) {cs : List Value} {x : DataW H × List MemPlace} (h : Td enc W fuel ts cs x) (hb : Wt ts x.1) :
    ∃ v l, cs = [v] ∧ Lst k f W v l ∧ (∀ a ∈ l, Ok a) ∧ Le (Num.uv l.length ++ l.flatMap g) (Rows.uptoBulk x.1) := by
  rcases DataW.trod_slice ht h with ⟨rfl, rfl⟩ | ⟨a, len, cap, elems, rest, n, rfl, rfl, rfl, _, hl, hm, hlen, he, _, _⟩
  · exact ⟨_, [], rfl, Fi.RdsK.nil k W, (fun _ h => by cases h), Le.of (Le.uv 0) (by simp)⟩
  · rw [hc] at he
    have hwe : ∀ d ∈ elems.map (·.1), Wt te d := fun d hd k hk => hb k (by
      simp only [DataW.weights, ht, List.mem_cons, List.mem_append]
      exact .inr (.inl (weightsAll_mem hd k hk)))
    obtain ⟨l, hll, hq⟩ := Fi.pick_all (fun i (b : α) => (Ok b ∧ ∀ hi : i < elems.length, Le (g b) (Rows.uptoBulk elems[i].1)) ∧ ∀ c v, (f b)[c]? = some v → W.cell? (a.add (i * k + c)) = some v) len fun i hi => by
      have hE := he i hi
      have hi' : i < elems.length := by omega
      rw [List.getElem?_eq_getElem hi', Option.bind_eq_some_iff] at hE
      obtain ⟨c1, hc1, hy⟩ := hE
      have hbe : Wt te elems[i].1 := hwe _ (List.mem_map.2 ⟨_, List.getElem_mem hi', rfl⟩)
      obtain ⟨b, hbc, hbo, hbl⟩ := hel n (Nat.lt_succ_self n) _ _ hy hbe
      refine ⟨b, ⟨hbo, fun _ => hbl⟩, fun c v hv => ?_⟩
      obtain ⟨_, _, hcell⟩ := World.cells?_some hc1
      rw [← Fi.add_add]
      have hck : c < k := by have := (List.getElem?_eq_some_iff.1 hv).1; rwa [hk] at this
      rw [hcell c hck, hbc]
      exact hv
    have hfl : (l.flatMap f).length = l.length * k := by
      clear hq hll
      induction l with
      | nil => simp
      | cons b r ih => simp only [List.flatMap_cons, List.length_append, hk, List.length_cons, ih, Nat.add_mul]; omega
    refine ⟨_, l, rfl, ⟨some a, cap, by rw [hll], hfl, by omega, hm, (fun h => by cases h), ?_⟩, fun b hb => ?_, ?_⟩
    · rintro ad ⟨rfl⟩ j u hj
      have hj4 : j < l.length * k := by have := (List.getElem?_eq_some_iff.1 hj).1; rwa [hfl] at this
      have hd : j / k < l.length := (Nat.div_lt_iff_lt_mul hk0).2 hj4
      have hmd : j % k < k := Nat.mod_lt _ hk0
      have e := flat_get hk l (j / k) (j % k) hd hmd
      rw [show j / k * k + j % k = j by rw [Nat.mul_comm]; exact Nat.div_add_mod j k, hj] at e
      have := (hq (j / k) hd).2 (j % k) u e.symm
      rwa [show j / k * k + j % k = j by rw [Nat.mul_comm]; exact Nat.div_add_mod j k] at this
    · obtain ⟨i, hi, rfl⟩ := List.getElem_of_mem hb
      exact (hq i hi).1.1
    · trivial
theorem txs_in {fuel : Nat} {cs : List Value} {x : DataW H × List MemPlace} (h : Td enc W fuel 24 cs x) (hb : Wt 24 x.1) :
    ∃ v ts, cs = [v] ∧ Lst 1 cl_str W v ts ∧ Txs ts ∧ Le (r_txt ts) (Rows.uptoBulk x.1) :=
  lst_in 1 cl_str et 9 (fun t => t.length ≤ 140737488351232) (fun _ => rfl) (by omega) (by kernel_rfl) Try.underlying24 (fun n _ cs x h hb => by
    obtain ⟨t, e, hl, hle⟩ := str_in h hb
    exact ⟨t, e, hl, hle⟩) h hb
theorem zs_in {fuel : Nat} {cs : List Value} {x : DataW H × List MemPlace} (h : Td enc W fuel 25 cs x) (hb : Wt 25 x.1) :
    ∃ v zs, cs = [v] ∧ Lst 1 cl_i64 W v zs ∧ Zs zs ∧ Le (Num.uv zs.length ++ zs.flatMap ei) (Rows.uptoBulk x.1) :=
  lst_in 1 cl_i64 ei 2 In64 (fun _ => rfl) (by omega) (by kernel_rfl) Try.underlying25 (fun n _ cs x h _ => i64_in Try.underlying2 h) h hb
theorem ns_in {fuel : Nat} {cs : List Value} {x : DataW H × List MemPlace} (h : Td enc W fuel 123 cs x) (hb : Wt 123 x.1) :
    ∃ v zs, cs = [v] ∧ Lst 1 cl_int W v zs ∧ Zs zs ∧ Le (Num.uv zs.length ++ zs.flatMap ei) (Rows.uptoBulk x.1) :=
  lst_in 1 cl_int ei 3 In64 (fun _ => rfl) (by omega) (by kernel_rfl) Try.underlying123 (fun n _ cs x h _ => i64_in Try.underlying3 h) h hb
theorem sets_in {fuel : Nat} {cs : List Value} {x : DataW H × List MemPlace} (h : Td enc W fuel 33 cs x) (hb : Wt 33 x.1) :
    ∃ v l, cs = [v] ∧ Lst 1 cl_set W v l ∧ (∀ s ∈ l, Lst 1 cl_int W s.1 s.2 ∧ Zs s.2) ∧ Le (Num.uv l.length ++ l.flatMap r_set) (Rows.uptoBulk x.1) :=
  lst_in 1 cl_set r_set 123 (fun s => Lst 1 cl_int W s.1 s.2 ∧ Zs s.2) (fun _ => rfl) (by omega) (by kernel_rfl) Try.underlying33 (fun n _ cs x h hb => by
    obtain ⟨v, zs, e, hl, hz, hle⟩ := ns_in h hb
    exact ⟨(v, zs), e, ⟨hl, hz⟩, hle⟩) h hb
theorem span_in  : ∀ {fuel : Nat} {cs : List Value} {x : DataW H × List MemPlace}, Td enc W fuel 29 cs x → Wt 29 x.1 → ∃ F T : Int, cs = [.int .i64 F, .int .i64 T] ∧ In64 F ∧ In64 T ∧ Le (r_span F T) (Rows.uptoBulk x.1) := by
  intro fuel cs x h hb
  obtain ⟨xs, n, rfl, rfl, hl, hxs, hf⟩ := DataW.trod_struct Try.underlying29 h
  have hl : cs.length = 2 := hl.trans (by kernel_rfl)
  obtain ⟨c0, c1, rfl⟩ : ∃ c0 c1, cs = [c0, c1] := by
    match cs, hl with
    | [c0, c1], _ => exact ⟨c0, c1, rfl⟩
  have hxs : xs.length = 2 := hxs
  obtain ⟨x0, x1, rfl⟩ : ∃ x0 x1, xs = [x0, x1] := by
    match xs, hxs with
    | [x0, x1], _ => exact ⟨x0, x1, rfl⟩
  have hw2 : ∀ n ∈ DataW.weightsEach Try.prog [2, 2] [x0.1, x1.1], n ≤ reachBytes := fun n hn => hb n (by simpa [DataW.weights, Try.underlying29] using hn)
  have h0 : Td enc W n 2 [c0] x0 := by
    have := hf 0 _ rfl
    have ec : Try.prog.cellsOf 2 = 1 := by kernel_rfl
    have e2 : DataW.trod enc Try.prog W 0 (fun _ => true) true n 2 (([c0, c1].drop 0).take (Try.prog.cellsOf 2)) = some x0 := this
    rw [ec] at e2
    exact e2
  have b0 : Wt 2 x0.1 := fun n hn => hw2 n (DataW.weights_mem_each (j := 0) rfl rfl n hn)
  have h1 : Td enc W n 2 [c1] x1 := by
    have := hf 1 _ rfl
    have ec : Try.prog.cellsOf 2 = 1 := by kernel_rfl
    have e2 : DataW.trod enc Try.prog W 0 (fun _ => true) true n 2 (([c0, c1].drop 1).take (Try.prog.cellsOf 2)) = some x1 := this
    rw [ec] at e2
    exact e2
  have b1 : Wt 2 x1.1 := fun n hn => hw2 n (DataW.weights_mem_each (j := 1) rfl rfl n hn)
  clear hf h hxs hl
  obtain ⟨F, ce0, in0, le0⟩ := i64_in Try.underlying2 h0
  simp only [List.cons.injEq, and_true] at ce0
  subst ce0
  obtain ⟨T, ce1, in1, le1⟩ := i64_in Try.underlying2 h1
  simp only [List.cons.injEq, and_true] at ce1
  subst ce1
  have e3 : Rows.uptoBulk (DataW.agg (([x0, x1] : List (DataW H × List MemPlace)).map (·.1))) = Rows.uptoBulk x0.1 + (Rows.uptoBulk x1.1 + 0) + 1 := by simp [Rows.uptoBulk, Rows.uptoBulkAll]
  refine ⟨F, T, rfl, in0, in1, ?_⟩
  rw [e3]
  exact Le.up (Le.app le0 (Le.zero le1))
theorem agg_in  : ∀ {fuel : Nat} {cs : List Value} {x : DataW H × List MemPlace}, Td enc W fuel 128 cs x → Wt 128 x.1 → ∃ y : Int × Int, cs = cl_agg y ∧ (In64 y.1 ∧ In64 y.2) ∧ Le (r_agg y) (Rows.uptoBulk x.1) := by
  intro fuel cs x h hb
  obtain ⟨xs, n, rfl, rfl, hl, hxs, hf⟩ := DataW.trod_struct Try.underlying128 h
  have hl : cs.length = 2 := hl.trans (by kernel_rfl)
  obtain ⟨c0, c1, rfl⟩ : ∃ c0 c1, cs = [c0, c1] := by
    match cs, hl with
    | [c0, c1], _ => exact ⟨c0, c1, rfl⟩
  have hxs : xs.length = 2 := hxs
  obtain ⟨x0, x1, rfl⟩ : ∃ x0 x1, xs = [x0, x1] := by
    match xs, hxs with
    | [x0, x1], _ => exact ⟨x0, x1, rfl⟩
  have hw2 : ∀ n ∈ DataW.weightsEach Try.prog [3, 3] [x0.1, x1.1], n ≤ reachBytes := fun n hn => hb n (by simpa [DataW.weights, Try.underlying128] using hn)
  have h0 : Td enc W n 3 [c0] x0 := by
    have := hf 0 _ rfl
    have ec : Try.prog.cellsOf 3 = 1 := by kernel_rfl
    have e2 : DataW.trod enc Try.prog W 0 (fun _ => true) true n 3 (([c0, c1].drop 0).take (Try.prog.cellsOf 3)) = some x0 := this
    rw [ec] at e2
    exact e2
  have b0 : Wt 3 x0.1 := fun n hn => hw2 n (DataW.weights_mem_each (j := 0) rfl rfl n hn)
  have h1 : Td enc W n 3 [c1] x1 := by
    have := hf 1 _ rfl
    have ec : Try.prog.cellsOf 3 = 1 := by kernel_rfl
    have e2 : DataW.trod enc Try.prog W 0 (fun _ => true) true n 3 (([c0, c1].drop 1).take (Try.prog.cellsOf 3)) = some x1 := this
    rw [ec] at e2
    exact e2
  have b1 : Wt 3 x1.1 := fun n hn => hw2 n (DataW.weights_mem_each (j := 1) rfl rfl n hn)
  clear hf h hxs hl
  obtain ⟨F, ce0, in0, le0⟩ := i64_in Try.underlying3 h0
  simp only [List.cons.injEq, and_true] at ce0
  subst ce0
  obtain ⟨T, ce1, in1, le1⟩ := i64_in Try.underlying3 h1
  simp only [List.cons.injEq, and_true] at ce1
  subst ce1
  have e3 : Rows.uptoBulk (DataW.agg (([x0, x1] : List (DataW H × List MemPlace)).map (·.1))) = Rows.uptoBulk x0.1 + (Rows.uptoBulk x1.1 + 0) + 1 := by simp [Rows.uptoBulk, Rows.uptoBulkAll]
  refine ⟨(F, T), rfl, ⟨in0, in1⟩, ?_⟩
  rw [e3]
  exact Le.up (Le.app le0 (Le.zero le1))
theorem seg_in  : ∀ {fuel : Nat} {cs : List Value} {x : DataW H × List MemPlace}, Td enc W fuel 38 cs x → Wt 38 x.1 → ∃ y : Sg, cs = cl_seg y ∧ y.In ∧ Le (r_seg y) (Rows.uptoBulk x.1) := by
  intro fuel cs x h hb
  obtain ⟨xs, n, rfl, rfl, hl, hxs, hf⟩ := DataW.trod_struct Try.underlying38 h
  have hl : cs.length = 5 := hl.trans (by kernel_rfl)
  obtain ⟨c0, c1, c2, c3, c4, rfl⟩ : ∃ c0 c1 c2 c3 c4, cs = [c0, c1, c2, c3, c4] := by
    match cs, hl with
    | [c0, c1, c2, c3, c4], _ => exact ⟨c0, c1, c2, c3, c4, rfl⟩
  have hxs : xs.length = 4 := hxs
  obtain ⟨x0, x1, x2, x3, rfl⟩ : ∃ x0 x1 x2 x3, xs = [x0, x1, x2, x3] := by
    match xs, hxs with
    | [x0, x1, x2, x3], _ => exact ⟨x0, x1, x2, x3, rfl⟩
  have hw2 : ∀ n ∈ DataW.weightsEach Try.prog [29, 3, 3, 3] [x0.1, x1.1, x2.1, x3.1], n ≤ reachBytes := fun n hn => hb n (by simpa [DataW.weights, Try.underlying38] using hn)
  have h0 : Td enc W n 29 [c0, c1] x0 := by
    have := hf 0 _ rfl
    have ec : Try.prog.cellsOf 29 = 2 := by kernel_rfl
    have e2 : DataW.trod enc Try.prog W 0 (fun _ => true) true n 29 (([c0, c1, c2, c3, c4].drop 0).take (Try.prog.cellsOf 29)) = some x0 := this
    rw [ec] at e2
    exact e2
  have b0 : Wt 29 x0.1 := fun n hn => hw2 n (DataW.weights_mem_each (j := 0) rfl rfl n hn)
  have h1 : Td enc W n 3 [c2] x1 := by
    have := hf 1 _ rfl
    have ec : Try.prog.cellsOf 3 = 1 := by kernel_rfl
    have e2 : DataW.trod enc Try.prog W 0 (fun _ => true) true n 3 (([c0, c1, c2, c3, c4].drop 2).take (Try.prog.cellsOf 3)) = some x1 := this
    rw [ec] at e2
    exact e2
  have b1 : Wt 3 x1.1 := fun n hn => hw2 n (DataW.weights_mem_each (j := 1) rfl rfl n hn)
  have h2 : Td enc W n 3 [c3] x2 := by
    have := hf 2 _ rfl
    have ec : Try.prog.cellsOf 3 = 1 := by kernel_rfl
    have e2 : DataW.trod enc Try.prog W 0 (fun _ => true) true n 3 (([c0, c1, c2, c3, c4].drop 3).take (Try.prog.cellsOf 3)) = some x2 := this
    rw [ec] at e2
    exact e2
  have b2 : Wt 3 x2.1 := fun n hn => hw2 n (DataW.weights_mem_each (j := 2) rfl rfl n hn)
  have h3 : Td enc W n 3 [c4] x3 := by
    have := hf 3 _ rfl
    have ec : Try.prog.cellsOf 3 = 1 := by kernel_rfl
    have e2 : DataW.trod enc Try.prog W 0 (fun _ => true) true n 3 (([c0, c1, c2, c3, c4].drop 4).take (Try.prog.cellsOf 3)) = some x3 := this
    rw [ec] at e2
    exact e2
  have b3 : Wt 3 x3.1 := fun n hn => hw2 n (DataW.weights_mem_each (j := 3) rfl rfl n hn)
  clear hf h hxs hl
  obtain ⟨F, T, ce0, in0, in0b, le0⟩ := span_in h0 b0
  simp only [List.cons.injEq, and_true] at ce0
  obtain ⟨rfl, rfl⟩ := ce0
  obtain ⟨V, ce1, in1, le1⟩ := i64_in Try.underlying3 h1
  simp only [List.cons.injEq, and_true] at ce1
  subst ce1
  obtain ⟨P, ce2, in2, le2⟩ := i64_in Try.underlying3 h2
  simp only [List.cons.injEq, and_true] at ce2
  subst ce2
  obtain ⟨C, ce3, in3, le3⟩ := i64_in Try.underlying3 h3
  simp only [List.cons.injEq, and_true] at ce3
  subst ce3
  have e3 : Rows.uptoBulk (DataW.agg (([x0, x1, x2, x3] : List (DataW H × List MemPlace)).map (·.1))) = Rows.uptoBulk x0.1 + (Rows.uptoBulk x1.1 + (Rows.uptoBulk x2.1 + (Rows.uptoBulk x3.1 + 0))) + 1 := by simp [Rows.uptoBulk, Rows.uptoBulkAll]
  refine ⟨⟨F, T, V, P, C⟩, rfl, ⟨in0, in0b, in1, in2, in3⟩, ?_⟩
  rw [e3]
  exact Le.up (Le.app le0 (Le.app le1 (Le.app le2 (Le.zero le3))))
theorem prt_in  : ∀ {fuel : Nat} {cs : List Value} {x : DataW H × List MemPlace}, Td enc W fuel 87 cs x → Wt 87 x.1 → ∃ y : Pt, cs = cl_prt y ∧ y.Ok W ∧ Le (r_prt y) (Rows.uptoBulk x.1) := by
  intro fuel cs x h hb
  obtain ⟨xs, n, rfl, rfl, hl, hxs, hf⟩ := DataW.trod_struct Try.underlying87 h
  have hl : cs.length = 3 := hl.trans (by kernel_rfl)
  obtain ⟨c0, c1, c2, rfl⟩ : ∃ c0 c1 c2, cs = [c0, c1, c2] := by
    match cs, hl with
    | [c0, c1, c2], _ => exact ⟨c0, c1, c2, rfl⟩
  have hxs : xs.length = 3 := hxs
  obtain ⟨x0, x1, x2, rfl⟩ : ∃ x0 x1 x2, xs = [x0, x1, x2] := by
    match xs, hxs with
    | [x0, x1, x2], _ => exact ⟨x0, x1, x2, rfl⟩
  have hw2 : ∀ n ∈ DataW.weightsEach Try.prog [22, 2, 24] [x0.1, x1.1, x2.1], n ≤ reachBytes := fun n hn => hb n (by simpa [DataW.weights, Try.underlying87] using hn)
  have h0 : Td enc W n 22 [c0] x0 := by
    have := hf 0 _ rfl
    have ec : Try.prog.cellsOf 22 = 1 := by kernel_rfl
    have e2 : DataW.trod enc Try.prog W 0 (fun _ => true) true n 22 (([c0, c1, c2].drop 0).take (Try.prog.cellsOf 22)) = some x0 := this
    rw [ec] at e2
    exact e2
  have b0 : Wt 22 x0.1 := fun n hn => hw2 n (DataW.weights_mem_each (j := 0) rfl rfl n hn)
  have h1 : Td enc W n 2 [c1] x1 := by
    have := hf 1 _ rfl
    have ec : Try.prog.cellsOf 2 = 1 := by kernel_rfl
    have e2 : DataW.trod enc Try.prog W 0 (fun _ => true) true n 2 (([c0, c1, c2].drop 1).take (Try.prog.cellsOf 2)) = some x1 := this
    rw [ec] at e2
    exact e2
  have b1 : Wt 2 x1.1 := fun n hn => hw2 n (DataW.weights_mem_each (j := 1) rfl rfl n hn)
  have h2 : Td enc W n 24 [c2] x2 := by
    have := hf 2 _ rfl
    have ec : Try.prog.cellsOf 24 = 1 := by kernel_rfl
    have e2 : DataW.trod enc Try.prog W 0 (fun _ => true) true n 24 (([c0, c1, c2].drop 2).take (Try.prog.cellsOf 24)) = some x2 := this
    rw [ec] at e2
    exact e2
  have b2 : Wt 24 x2.1 := fun n hn => hw2 n (DataW.weights_mem_each (j := 2) rfl rfl n hn)
  clear hf h hxs hl
  obtain ⟨n, ce0, in0, le0⟩ := u64_in Try.underlying22 h0
  simp only [List.cons.injEq, and_true] at ce0
  subst ce0
  obtain ⟨v, ce1, in1, le1⟩ := i64_in Try.underlying2 h1
  simp only [List.cons.injEq, and_true] at ce1
  subst ce1
  obtain ⟨tv, ts, ce2, ls2, in2, le2⟩ := txs_in h2 b2
  simp only [List.cons.injEq, and_true] at ce2
  subst ce2
  have e3 : Rows.uptoBulk (DataW.agg (([x0, x1, x2] : List (DataW H × List MemPlace)).map (·.1))) = Rows.uptoBulk x0.1 + (Rows.uptoBulk x1.1 + (Rows.uptoBulk x2.1 + 0)) + 1 := by simp [Rows.uptoBulk, Rows.uptoBulkAll]
  refine ⟨⟨n, v, _, ts⟩, rfl, ⟨in0, in1, ls2, in2⟩, ?_⟩
  rw [e3]
  exact Le.up (Le.app le0 (Le.app le1 (Le.zero le2)))
theorem segs_in {fuel : Nat} {cs : List Value} {x : DataW H × List MemPlace} (h : Td enc W fuel 43 cs x) (hb : Wt 43 x.1) :
    ∃ v l, cs = [v] ∧ Lst 5 cl_seg W v l ∧ (∀ s ∈ l, s.In) ∧ Le (Num.uv l.length ++ l.flatMap r_seg) (Rows.uptoBulk x.1) :=
  lst_in 5 cl_seg r_seg 38 Sg.In (fun _ => rfl) (by omega) (by kernel_rfl) Try.underlying43 (fun n _ cs x h hb => seg_in h hb) h hb
theorem aggs_in {fuel : Nat} {cs : List Value} {x : DataW H × List MemPlace} (h : Td enc W fuel 34 cs x) (hb : Wt 34 x.1) :
    ∃ v l, cs = [v] ∧ Lst 2 cl_agg W v l ∧ (∀ s ∈ l, In64 s.1 ∧ In64 s.2) ∧ Le (Num.uv l.length ++ l.flatMap r_agg) (Rows.uptoBulk x.1) :=
  lst_in 2 cl_agg r_agg 128 (fun s => In64 s.1 ∧ In64 s.2) (fun _ => rfl) (by omega) (by kernel_rfl) Try.underlying34 (fun n _ cs x h hb => agg_in h hb) h hb
theorem prts_in {fuel : Nat} {cs : List Value} {x : DataW H × List MemPlace} (h : Td enc W fuel 75 cs x) (hb : Wt 75 x.1) :
    ∃ v l, cs = [v] ∧ Lst 3 cl_prt W v l ∧ (∀ s ∈ l, s.Ok W) ∧ Le (Num.uv l.length ++ l.flatMap r_prt) (Rows.uptoBulk x.1) :=
  lst_in 3 cl_prt r_prt 87 (fun s => s.Ok W) (fun _ => rfl) (by omega) (by kernel_rfl) Try.underlying75 (fun n _ cs x h hb => prt_in h hb) h hb
theorem key_in  : ∀ {fuel : Nat} {cs : List Value} {x : DataW H × List MemPlace}, Td enc W fuel 74 cs x → Wt 74 x.1 → ∃ (a b : Int) (dv : Value) (ds : List Fi.Str), cs = [.int .i64 a, .int .i64 b, dv] ∧ In64 a ∧ In64 b ∧ Lst 1 cl_str W dv ds ∧ Txs ds ∧ Le (ei a ++ (ei b ++ r_txt ds)) (Rows.uptoBulk x.1) := by
  intro fuel cs x h hb
  obtain ⟨xs, n, rfl, rfl, hl, hxs, hf⟩ := DataW.trod_struct Try.underlying74 h
  have hl : cs.length = 3 := hl.trans (by kernel_rfl)
  obtain ⟨c0, c1, c2, rfl⟩ : ∃ c0 c1 c2, cs = [c0, c1, c2] := by
    match cs, hl with
    | [c0, c1, c2], _ => exact ⟨c0, c1, c2, rfl⟩
  have hxs : xs.length = 3 := hxs
  obtain ⟨x0, x1, x2, rfl⟩ : ∃ x0 x1 x2, xs = [x0, x1, x2] := by
    match xs, hxs with
    | [x0, x1, x2], _ => exact ⟨x0, x1, x2, rfl⟩
  have hw2 : ∀ n ∈ DataW.weightsEach Try.prog [3, 2, 24] [x0.1, x1.1, x2.1], n ≤ reachBytes := fun n hn => hb n (by simpa [DataW.weights, Try.underlying74] using hn)
  have h0 : Td enc W n 3 [c0] x0 := by
    have := hf 0 _ rfl
    have ec : Try.prog.cellsOf 3 = 1 := by kernel_rfl
    have e2 : DataW.trod enc Try.prog W 0 (fun _ => true) true n 3 (([c0, c1, c2].drop 0).take (Try.prog.cellsOf 3)) = some x0 := this
    rw [ec] at e2
    exact e2
  have b0 : Wt 3 x0.1 := fun n hn => hw2 n (DataW.weights_mem_each (j := 0) rfl rfl n hn)
  have h1 : Td enc W n 2 [c1] x1 := by
    have := hf 1 _ rfl
    have ec : Try.prog.cellsOf 2 = 1 := by kernel_rfl
    have e2 : DataW.trod enc Try.prog W 0 (fun _ => true) true n 2 (([c0, c1, c2].drop 1).take (Try.prog.cellsOf 2)) = some x1 := this
    rw [ec] at e2
    exact e2
  have b1 : Wt 2 x1.1 := fun n hn => hw2 n (DataW.weights_mem_each (j := 1) rfl rfl n hn)
  have h2 : Td enc W n 24 [c2] x2 := by
    have := hf 2 _ rfl
    have ec : Try.prog.cellsOf 24 = 1 := by kernel_rfl
    have e2 : DataW.trod enc Try.prog W 0 (fun _ => true) true n 24 (([c0, c1, c2].drop 2).take (Try.prog.cellsOf 24)) = some x2 := this
    rw [ec] at e2
    exact e2
  have b2 : Wt 24 x2.1 := fun n hn => hw2 n (DataW.weights_mem_each (j := 2) rfl rfl n hn)
  clear hf h hxs hl
  obtain ⟨a, ce0, in0, le0⟩ := i64_in Try.underlying3 h0
  simp only [List.cons.injEq, and_true] at ce0
  subst ce0
  obtain ⟨b, ce1, in1, le1⟩ := i64_in Try.underlying2 h1
  simp only [List.cons.injEq, and_true] at ce1
  subst ce1
  obtain ⟨dv, ds, ce2, ls2, in2, le2⟩ := txs_in h2 b2
  simp only [List.cons.injEq, and_true] at ce2
  subst ce2
  have e3 : Rows.uptoBulk (DataW.agg (([x0, x1, x2] : List (DataW H × List MemPlace)).map (·.1))) = Rows.uptoBulk x0.1 + (Rows.uptoBulk x1.1 + (Rows.uptoBulk x2.1 + 0)) + 1 := by simp [Rows.uptoBulk, Rows.uptoBulkAll]
  refine ⟨a, b, _, ds, rfl, in0, in1, ls2, in2, ?_⟩
  rw [e3]
  exact Le.up (Le.app le0 (Le.app le1 (Le.zero le2)))
theorem grp_in  : ∀ {fuel : Nat} {cs : List Value} {x : DataW H × List MemPlace}, Td enc W fuel 77 cs x → Wt 77 x.1 → ∃ y : Gp, cs = cl_grp y ∧ y.Ok W ∧ Le (r_grp y) (Rows.uptoBulk x.1) := by
  intro fuel cs x h hb
  obtain ⟨xs, n, rfl, rfl, hl, hxs, hf⟩ := DataW.trod_struct Try.underlying77 h
  have hl : cs.length = 4 := hl.trans (by kernel_rfl)
  obtain ⟨c0, c1, c2, c3, rfl⟩ : ∃ c0 c1 c2 c3, cs = [c0, c1, c2, c3] := by
    match cs, hl with
    | [c0, c1, c2, c3], _ => exact ⟨c0, c1, c2, c3, rfl⟩
  have hxs : xs.length = 2 := hxs
  obtain ⟨x0, x1, rfl⟩ : ∃ x0 x1, xs = [x0, x1] := by
    match xs, hxs with
    | [x0, x1], _ => exact ⟨x0, x1, rfl⟩
  have hw2 : ∀ n ∈ DataW.weightsEach Try.prog [74, 75] [x0.1, x1.1], n ≤ reachBytes := fun n hn => hb n (by simpa [DataW.weights, Try.underlying77] using hn)
  have h0 : Td enc W n 74 [c0, c1, c2] x0 := by
    have := hf 0 _ rfl
    have ec : Try.prog.cellsOf 74 = 3 := by kernel_rfl
    have e2 : DataW.trod enc Try.prog W 0 (fun _ => true) true n 74 (([c0, c1, c2, c3].drop 0).take (Try.prog.cellsOf 74)) = some x0 := this
    rw [ec] at e2
    exact e2
  have b0 : Wt 74 x0.1 := fun n hn => hw2 n (DataW.weights_mem_each (j := 0) rfl rfl n hn)
  have h1 : Td enc W n 75 [c3] x1 := by
    have := hf 1 _ rfl
    have ec : Try.prog.cellsOf 75 = 1 := by kernel_rfl
    have e2 : DataW.trod enc Try.prog W 0 (fun _ => true) true n 75 (([c0, c1, c2, c3].drop 3).take (Try.prog.cellsOf 75)) = some x1 := this
    rw [ec] at e2
    exact e2
  have b1 : Wt 75 x1.1 := fun n hn => hw2 n (DataW.weights_mem_each (j := 1) rfl rfl n hn)
  clear hf h hxs hl
  obtain ⟨a, b, dv, ds, ce0, in0, in0b, ls0, in0c, le0⟩ := key_in h0 b0
  simp only [List.cons.injEq, and_true] at ce0
  obtain ⟨rfl, rfl, rfl⟩ := ce0
  obtain ⟨pv, ps, ce1, ls1, in1, le1⟩ := prts_in h1 b1
  simp only [List.cons.injEq, and_true] at ce1
  subst ce1
  have e3 : Rows.uptoBulk (DataW.agg (([x0, x1] : List (DataW H × List MemPlace)).map (·.1))) = Rows.uptoBulk x0.1 + (Rows.uptoBulk x1.1 + 0) + 1 := by simp [Rows.uptoBulk, Rows.uptoBulkAll]
  refine ⟨⟨a, b, _, ds, _, ps⟩, rfl, ⟨in0, in0b, ls0, in0c, ls1, in1⟩, ?_⟩
  rw [e3]
  exact Le.of (Le.up (Le.app le0 (Le.zero le1))) (by simp only [r_grp, List.append_assoc])
theorem grps_in {fuel : Nat} {cs : List Value} {x : DataW H × List MemPlace} (h : Td enc W fuel 44 cs x) (hb : Wt 44 x.1) :
    ∃ v l, cs = [v] ∧ Lst 4 cl_grp W v l ∧ (∀ s ∈ l, s.Ok W) ∧ Le (Num.uv l.length ++ l.flatMap r_grp) (Rows.uptoBulk x.1) :=
  lst_in 4 cl_grp r_grp 77 (fun s => s.Ok W) (fun _ => rfl) (by omega) (by kernel_rfl) Try.underlying44 (fun n _ cs x h hb => grp_in h hb) h hb
theorem lst_rds {w : World} {v : Value} {ts : List Fi.Str} (h : Lst 1 cl_str w v ts) : Fi.Rds w v (Fi.sv ts) := by
  obtain ⟨ao, cap, rfl, h0, h1, h2, h3, h4⟩ := h
  rw [flat_str] at h0 h4
  refine ⟨ao, cap, by rw [Fi.sv_length], by rw [Fi.sv_length]; exact h1, h2, ?_, h4⟩
  rw [Fi.sv_length]; exact h3
theorem fil_in : ∀ (fuel : Nat) (cs : List Value) (x : DataW H × List MemPlace), Td enc W fuel 32 cs x → Wt 32 x.1 → ∃ t : Fi.Tr, cs = cl_fil t ∧ (t.Ok W ∧ TrIn t) ∧ Le (r_fil t) (Rows.uptoBulk x.1) := by
  intro fuel
  induction fuel using Nat.strongRecOn with
  | ind fuel ih =>
  intro cs x h hb
  obtain ⟨xs, n, rfl, rfl, hl, hxs, hf⟩ := DataW.trod_struct Try.underlying32 h
  have hl : cs.length = 6 := hl.trans (by kernel_rfl)
  obtain ⟨c0, c1, c2, c3, c4, c5, rfl⟩ : ∃ c0 c1 c2 c3 c4 c5, cs = [c0, c1, c2, c3, c4, c5] := by
    match cs, hl with
    | [c0, c1, c2, c3, c4, c5], _ => exact ⟨c0, c1, c2, c3, c4, c5, rfl⟩
  have hxs : xs.length = 6 := hxs
  obtain ⟨x0, x1, x2, x3, x4, x5, rfl⟩ : ∃ x0 x1 x2 x3 x4 x5, xs = [x0, x1, x2, x3, x4, x5] := by
    match xs, hxs with
    | [x0, x1, x2, x3, x4, x5], _ => exact ⟨x0, x1, x2, x3, x4, x5, rfl⟩
  have hw2 : ∀ n ∈ DataW.weightsEach Try.prog [3, 3, 24, 2, 2, 30] [x0.1, x1.1, x2.1, x3.1, x4.1, x5.1], n ≤ reachBytes := fun n hn => hb n (by simpa [DataW.weights, Try.underlying32] using hn)
  have h0 : Td enc W n 3 [c0] x0 := by
    have := hf 0 _ rfl
    have ec : Try.prog.cellsOf 3 = 1 := by kernel_rfl
    have e2 : DataW.trod enc Try.prog W 0 (fun _ => true) true n 3 (([c0, c1, c2, c3, c4, c5].drop 0).take (Try.prog.cellsOf 3)) = some x0 := this
    rw [ec] at e2
    exact e2
  have b0 : Wt 3 x0.1 := fun n hn => hw2 n (DataW.weights_mem_each (j := 0) rfl rfl n hn)
  have h1 : Td enc W n 3 [c1] x1 := by
    have := hf 1 _ rfl
    have ec : Try.prog.cellsOf 3 = 1 := by kernel_rfl
    have e2 : DataW.trod enc Try.prog W 0 (fun _ => true) true n 3 (([c0, c1, c2, c3, c4, c5].drop 1).take (Try.prog.cellsOf 3)) = some x1 := this
    rw [ec] at e2
    exact e2
  have b1 : Wt 3 x1.1 := fun n hn => hw2 n (DataW.weights_mem_each (j := 1) rfl rfl n hn)
  have h2 : Td enc W n 24 [c2] x2 := by
    have := hf 2 _ rfl
    have ec : Try.prog.cellsOf 24 = 1 := by kernel_rfl
    have e2 : DataW.trod enc Try.prog W 0 (fun _ => true) true n 24 (([c0, c1, c2, c3, c4, c5].drop 2).take (Try.prog.cellsOf 24)) = some x2 := this
    rw [ec] at e2
    exact e2
  have b2 : Wt 24 x2.1 := fun n hn => hw2 n (DataW.weights_mem_each (j := 2) rfl rfl n hn)
  have h3 : Td enc W n 2 [c3] x3 := by
    have := hf 3 _ rfl
    have ec : Try.prog.cellsOf 2 = 1 := by kernel_rfl
    have e2 : DataW.trod enc Try.prog W 0 (fun _ => true) true n 2 (([c0, c1, c2, c3, c4, c5].drop 3).take (Try.prog.cellsOf 2)) = some x3 := this
    rw [ec] at e2
    exact e2
  have b3 : Wt 2 x3.1 := fun n hn => hw2 n (DataW.weights_mem_each (j := 3) rfl rfl n hn)
  have h4 : Td enc W n 2 [c4] x4 := by
    have := hf 4 _ rfl
    have ec : Try.prog.cellsOf 2 = 1 := by kernel_rfl
    have e2 : DataW.trod enc Try.prog W 0 (fun _ => true) true n 2 (([c0, c1, c2, c3, c4, c5].drop 4).take (Try.prog.cellsOf 2)) = some x4 := this
    rw [ec] at e2
    exact e2
  have b4 : Wt 2 x4.1 := fun n hn => hw2 n (DataW.weights_mem_each (j := 4) rfl rfl n hn)
  have h5 : Td enc W n 30 [c5] x5 := by
    have := hf 5 _ rfl
    have ec : Try.prog.cellsOf 30 = 1 := by kernel_rfl
    have e2 : DataW.trod enc Try.prog W 0 (fun _ => true) true n 30 (([c0, c1, c2, c3, c4, c5].drop 5).take (Try.prog.cellsOf 30)) = some x5 := this
    rw [ec] at e2
    exact e2
  have b5 : Wt 30 x5.1 := fun n hn => hw2 n (DataW.weights_mem_each (j := 5) rfl rfl n hn)
  clear hf h hxs hl
  obtain ⟨k, ce0, in0, le0⟩ := i64_in Try.underlying3 h0
  simp only [List.cons.injEq, and_true] at ce0
  subst ce0
  obtain ⟨d, ce1, in1, le1⟩ := i64_in Try.underlying3 h1
  simp only [List.cons.injEq, and_true] at ce1
  subst ce1
  obtain ⟨tv, ts, ce2, ls2, in2, le2⟩ := txs_in h2 b2
  simp only [List.cons.injEq, and_true] at ce2
  subst ce2
  obtain ⟨lo, ce3, in3, le3⟩ := i64_in Try.underlying2 h3
  simp only [List.cons.injEq, and_true] at ce3
  subst ce3
  obtain ⟨hi, ce4, in4, le4⟩ := i64_in Try.underlying2 h4
  simp only [List.cons.injEq, and_true] at ce4
  subst ce4
  obtain ⟨kv, ks, ce5, ls5, in5, le5⟩ := lst_in (W := W) (enc := enc) 6 cl_fil r_fil 32 (fun t => t.Ok W ∧ TrIn t) (fun _ => rfl) (by omega) (by kernel_rfl) Try.underlying30 (fun m hm cs x h hb => ih m (by omega) cs x h hb) h5 b5
  simp only [List.cons.injEq, and_true] at ce5
  subst ce5
  have e3 : Rows.uptoBulk (DataW.agg (([x0, x1, x2, x3, x4, x5] : List (DataW H × List MemPlace)).map (·.1))) = Rows.uptoBulk x0.1 + (Rows.uptoBulk x1.1 + (Rows.uptoBulk x2.1 + (Rows.uptoBulk x3.1 + (Rows.uptoBulk x4.1 + (Rows.uptoBulk x5.1 + 0))))) + 1 := by simp [Rows.uptoBulk, Rows.uptoBulkAll]
  refine ⟨.mk k d _ ts lo hi _ ks, rfl, ⟨.mk (lst_rds ls2) ls5 fun c hc => (in5 c hc).1, .mk in0 in1 in3 in4 in2 fun c hc => (in5 c hc).2⟩, ?_⟩
  rw [e3, r_fil_eq]
  exact Le.up (Le.app le0 (Le.app le1 (Le.app le2 (Le.app le3 (Le.app le4 (Le.zero le5))))))
theorem query_in  : ∀ {fuel : Nat} {cs : List Value} {x : DataW H × List MemPlace}, Td enc W fuel 36 cs x → Wt 36 x.1 → ∃ q : Qw, cs = [.int .i64 q.F, .int .i64 q.T, .int .i64 q.t.k, .int .i64 q.t.d, q.t.tv, .int .i64 q.t.lo, .int .i64 q.t.hi, q.t.kv, .int .i64 q.g, q.sv, q.av, .int .i64 q.G, .int .i64 q.R] ∧ q.Ok W ∧ Le (r_query q) (Rows.uptoBulk x.1) := by
  intro fuel cs x h hb
  obtain ⟨xs, n, rfl, rfl, hl, hxs, hf⟩ := DataW.trod_struct Try.underlying36 h
  have hl : cs.length = 13 := hl.trans (by kernel_rfl)
  obtain ⟨c0, c1, c2, c3, c4, c5, c6, c7, c8, c9, c10, c11, c12, rfl⟩ : ∃ c0 c1 c2 c3 c4 c5 c6 c7 c8 c9 c10 c11 c12, cs = [c0, c1, c2, c3, c4, c5, c6, c7, c8, c9, c10, c11, c12] := by
    match cs, hl with
    | [c0, c1, c2, c3, c4, c5, c6, c7, c8, c9, c10, c11, c12], _ => exact ⟨c0, c1, c2, c3, c4, c5, c6, c7, c8, c9, c10, c11, c12, rfl⟩
  have hxs : xs.length = 7 := hxs
  obtain ⟨x0, x1, x2, x3, x4, x5, x6, rfl⟩ : ∃ x0 x1 x2 x3 x4 x5 x6, xs = [x0, x1, x2, x3, x4, x5, x6] := by
    match xs, hxs with
    | [x0, x1, x2, x3, x4, x5, x6], _ => exact ⟨x0, x1, x2, x3, x4, x5, x6, rfl⟩
  have hw2 : ∀ n ∈ DataW.weightsEach Try.prog [29, 32, 2, 33, 34, 3, 3] [x0.1, x1.1, x2.1, x3.1, x4.1, x5.1, x6.1], n ≤ reachBytes := fun n hn => hb n (by simpa [DataW.weights, Try.underlying36] using hn)
  have h0 : Td enc W n 29 [c0, c1] x0 := by
    have := hf 0 _ rfl
    have ec : Try.prog.cellsOf 29 = 2 := by kernel_rfl
    have e2 : DataW.trod enc Try.prog W 0 (fun _ => true) true n 29 (([c0, c1, c2, c3, c4, c5, c6, c7, c8, c9, c10, c11, c12].drop 0).take (Try.prog.cellsOf 29)) = some x0 := this
    rw [ec] at e2
    exact e2
  have b0 : Wt 29 x0.1 := fun n hn => hw2 n (DataW.weights_mem_each (j := 0) rfl rfl n hn)
  have h1 : Td enc W n 32 [c2, c3, c4, c5, c6, c7] x1 := by
    have := hf 1 _ rfl
    have ec : Try.prog.cellsOf 32 = 6 := by kernel_rfl
    have e2 : DataW.trod enc Try.prog W 0 (fun _ => true) true n 32 (([c0, c1, c2, c3, c4, c5, c6, c7, c8, c9, c10, c11, c12].drop 2).take (Try.prog.cellsOf 32)) = some x1 := this
    rw [ec] at e2
    exact e2
  have b1 : Wt 32 x1.1 := fun n hn => hw2 n (DataW.weights_mem_each (j := 1) rfl rfl n hn)
  have h2 : Td enc W n 2 [c8] x2 := by
    have := hf 2 _ rfl
    have ec : Try.prog.cellsOf 2 = 1 := by kernel_rfl
    have e2 : DataW.trod enc Try.prog W 0 (fun _ => true) true n 2 (([c0, c1, c2, c3, c4, c5, c6, c7, c8, c9, c10, c11, c12].drop 8).take (Try.prog.cellsOf 2)) = some x2 := this
    rw [ec] at e2
    exact e2
  have b2 : Wt 2 x2.1 := fun n hn => hw2 n (DataW.weights_mem_each (j := 2) rfl rfl n hn)
  have h3 : Td enc W n 33 [c9] x3 := by
    have := hf 3 _ rfl
    have ec : Try.prog.cellsOf 33 = 1 := by kernel_rfl
    have e2 : DataW.trod enc Try.prog W 0 (fun _ => true) true n 33 (([c0, c1, c2, c3, c4, c5, c6, c7, c8, c9, c10, c11, c12].drop 9).take (Try.prog.cellsOf 33)) = some x3 := this
    rw [ec] at e2
    exact e2
  have b3 : Wt 33 x3.1 := fun n hn => hw2 n (DataW.weights_mem_each (j := 3) rfl rfl n hn)
  have h4 : Td enc W n 34 [c10] x4 := by
    have := hf 4 _ rfl
    have ec : Try.prog.cellsOf 34 = 1 := by kernel_rfl
    have e2 : DataW.trod enc Try.prog W 0 (fun _ => true) true n 34 (([c0, c1, c2, c3, c4, c5, c6, c7, c8, c9, c10, c11, c12].drop 10).take (Try.prog.cellsOf 34)) = some x4 := this
    rw [ec] at e2
    exact e2
  have b4 : Wt 34 x4.1 := fun n hn => hw2 n (DataW.weights_mem_each (j := 4) rfl rfl n hn)
  have h5 : Td enc W n 3 [c11] x5 := by
    have := hf 5 _ rfl
    have ec : Try.prog.cellsOf 3 = 1 := by kernel_rfl
    have e2 : DataW.trod enc Try.prog W 0 (fun _ => true) true n 3 (([c0, c1, c2, c3, c4, c5, c6, c7, c8, c9, c10, c11, c12].drop 11).take (Try.prog.cellsOf 3)) = some x5 := this
    rw [ec] at e2
    exact e2
  have b5 : Wt 3 x5.1 := fun n hn => hw2 n (DataW.weights_mem_each (j := 5) rfl rfl n hn)
  have h6 : Td enc W n 3 [c12] x6 := by
    have := hf 6 _ rfl
    have ec : Try.prog.cellsOf 3 = 1 := by kernel_rfl
    have e2 : DataW.trod enc Try.prog W 0 (fun _ => true) true n 3 (([c0, c1, c2, c3, c4, c5, c6, c7, c8, c9, c10, c11, c12].drop 12).take (Try.prog.cellsOf 3)) = some x6 := this
    rw [ec] at e2
    exact e2
  have b6 : Wt 3 x6.1 := fun n hn => hw2 n (DataW.weights_mem_each (j := 6) rfl rfl n hn)
  clear hf h hxs hl
  obtain ⟨F, T, ce0, in0, in0b, le0⟩ := span_in h0 b0
  simp only [List.cons.injEq, and_true] at ce0
  obtain ⟨rfl, rfl⟩ := ce0
  obtain ⟨t, ce1, in1, le1⟩ := fil_in _ _ _ h1 b1
  simp only [cl_fil, List.cons.injEq, and_true] at ce1
  obtain ⟨rfl, rfl, rfl, rfl, rfl, rfl⟩ := ce1
  obtain ⟨g, ce2, in2, le2⟩ := i64_in Try.underlying2 h2
  simp only [List.cons.injEq, and_true] at ce2
  subst ce2
  obtain ⟨sv, ss, ce3, ls3, in3, le3⟩ := sets_in h3 b3
  simp only [List.cons.injEq, and_true] at ce3
  subst ce3
  obtain ⟨av, ag, ce4, ls4, in4, le4⟩ := aggs_in h4 b4
  simp only [List.cons.injEq, and_true] at ce4
  subst ce4
  obtain ⟨G, ce5, in5, le5⟩ := i64_in Try.underlying3 h5
  simp only [List.cons.injEq, and_true] at ce5
  subst ce5
  obtain ⟨R, ce6, in6, le6⟩ := i64_in Try.underlying3 h6
  simp only [List.cons.injEq, and_true] at ce6
  subst ce6
  have e3 : Rows.uptoBulk (DataW.agg (([x0, x1, x2, x3, x4, x5, x6] : List (DataW H × List MemPlace)).map (·.1))) = Rows.uptoBulk x0.1 + (Rows.uptoBulk x1.1 + (Rows.uptoBulk x2.1 + (Rows.uptoBulk x3.1 + (Rows.uptoBulk x4.1 + (Rows.uptoBulk x5.1 + (Rows.uptoBulk x6.1 + 0)))))) + 1 := by simp [Rows.uptoBulk, Rows.uptoBulkAll]
  refine ⟨⟨F, T, t, g, _, ss, _, ag, G, R⟩, rfl, ⟨in0, in0b, in1.1, in1.2, in2, ls3, in3, ls4, in4, in5, in6⟩, ?_⟩
  rw [e3]
  exact Le.of (Le.up (Le.app le0 (Le.app le1 (Le.app le2 (Le.app le3 (Le.app le4 (Le.app le5 (Le.zero le6)))))))) (by simp only [r_query, List.append_assoc])
theorem fact_in  : ∀ {fuel : Nat} {cs : List Value} {x : DataW H × List MemPlace}, Td enc W fuel 27 cs x → Wt 27 x.1 → ∃ (t : Int) (dv : Value) (ds : List Fi.Str) (mv : Value) (ms : List Int), cs = [.int .i64 t, dv, mv] ∧ In64 t ∧ Lst 1 cl_str W dv ds ∧ Txs ds ∧ Lst 1 cl_i64 W mv ms ∧ Zs ms ∧ Le (ei t ++ (r_txt ds ++ (Num.uv ms.length ++ ms.flatMap ei))) (Rows.uptoBulk x.1) := by
  intro fuel cs x h hb
  obtain ⟨xs, n, rfl, rfl, hl, hxs, hf⟩ := DataW.trod_struct Try.underlying27 h
  have hl : cs.length = 3 := hl.trans (by kernel_rfl)
  obtain ⟨c0, c1, c2, rfl⟩ : ∃ c0 c1 c2, cs = [c0, c1, c2] := by
    match cs, hl with
    | [c0, c1, c2], _ => exact ⟨c0, c1, c2, rfl⟩
  have hxs : xs.length = 3 := hxs
  obtain ⟨x0, x1, x2, rfl⟩ : ∃ x0 x1 x2, xs = [x0, x1, x2] := by
    match xs, hxs with
    | [x0, x1, x2], _ => exact ⟨x0, x1, x2, rfl⟩
  have hw2 : ∀ n ∈ DataW.weightsEach Try.prog [2, 24, 25] [x0.1, x1.1, x2.1], n ≤ reachBytes := fun n hn => hb n (by simpa [DataW.weights, Try.underlying27] using hn)
  have h0 : Td enc W n 2 [c0] x0 := by
    have := hf 0 _ rfl
    have ec : Try.prog.cellsOf 2 = 1 := by kernel_rfl
    have e2 : DataW.trod enc Try.prog W 0 (fun _ => true) true n 2 (([c0, c1, c2].drop 0).take (Try.prog.cellsOf 2)) = some x0 := this
    rw [ec] at e2
    exact e2
  have b0 : Wt 2 x0.1 := fun n hn => hw2 n (DataW.weights_mem_each (j := 0) rfl rfl n hn)
  have h1 : Td enc W n 24 [c1] x1 := by
    have := hf 1 _ rfl
    have ec : Try.prog.cellsOf 24 = 1 := by kernel_rfl
    have e2 : DataW.trod enc Try.prog W 0 (fun _ => true) true n 24 (([c0, c1, c2].drop 1).take (Try.prog.cellsOf 24)) = some x1 := this
    rw [ec] at e2
    exact e2
  have b1 : Wt 24 x1.1 := fun n hn => hw2 n (DataW.weights_mem_each (j := 1) rfl rfl n hn)
  have h2 : Td enc W n 25 [c2] x2 := by
    have := hf 2 _ rfl
    have ec : Try.prog.cellsOf 25 = 1 := by kernel_rfl
    have e2 : DataW.trod enc Try.prog W 0 (fun _ => true) true n 25 (([c0, c1, c2].drop 2).take (Try.prog.cellsOf 25)) = some x2 := this
    rw [ec] at e2
    exact e2
  have b2 : Wt 25 x2.1 := fun n hn => hw2 n (DataW.weights_mem_each (j := 2) rfl rfl n hn)
  clear hf h hxs hl
  obtain ⟨t, ce0, in0, le0⟩ := i64_in Try.underlying2 h0
  simp only [List.cons.injEq, and_true] at ce0
  subst ce0
  obtain ⟨dv, ds, ce1, ls1, in1, le1⟩ := txs_in h1 b1
  simp only [List.cons.injEq, and_true] at ce1
  subst ce1
  obtain ⟨mv, ms, ce2, ls2, in2, le2⟩ := zs_in h2 b2
  simp only [List.cons.injEq, and_true] at ce2
  subst ce2
  have e3 : Rows.uptoBulk (DataW.agg (([x0, x1, x2] : List (DataW H × List MemPlace)).map (·.1))) = Rows.uptoBulk x0.1 + (Rows.uptoBulk x1.1 + (Rows.uptoBulk x2.1 + 0)) + 1 := by simp [Rows.uptoBulk, Rows.uptoBulkAll]
  refine ⟨t, _, ds, _, ms, rfl, in0, ls1, in1, ls2, in2, ?_⟩
  rw [e3]
  exact Le.up (Le.app le0 (Le.app le1 (Le.zero le2)))
theorem piece_in  : ∀ {fuel : Nat} {cs : List Value} {x : DataW H × List MemPlace}, Td enc W fuel 40 cs x → Wt 40 x.1 → ∃ (y : Sg) (F T : Int), cs = [.int .i64 y.F, .int .i64 y.T, .int .i64 y.V, .int .i64 y.P, .int .i64 y.C, .int .i64 F, .int .i64 T] ∧ y.In ∧ In64 F ∧ In64 T ∧ Le (r_seg y ++ r_span F T) (Rows.uptoBulk x.1) := by
  intro fuel cs x h hb
  obtain ⟨xs, n, rfl, rfl, hl, hxs, hf⟩ := DataW.trod_struct Try.underlying40 h
  have hl : cs.length = 7 := hl.trans (by kernel_rfl)
  obtain ⟨c0, c1, c2, c3, c4, c5, c6, rfl⟩ : ∃ c0 c1 c2 c3 c4 c5 c6, cs = [c0, c1, c2, c3, c4, c5, c6] := by
    match cs, hl with
    | [c0, c1, c2, c3, c4, c5, c6], _ => exact ⟨c0, c1, c2, c3, c4, c5, c6, rfl⟩
  have hxs : xs.length = 2 := hxs
  obtain ⟨x0, x1, rfl⟩ : ∃ x0 x1, xs = [x0, x1] := by
    match xs, hxs with
    | [x0, x1], _ => exact ⟨x0, x1, rfl⟩
  have hw2 : ∀ n ∈ DataW.weightsEach Try.prog [38, 29] [x0.1, x1.1], n ≤ reachBytes := fun n hn => hb n (by simpa [DataW.weights, Try.underlying40] using hn)
  have h0 : Td enc W n 38 [c0, c1, c2, c3, c4] x0 := by
    have := hf 0 _ rfl
    have ec : Try.prog.cellsOf 38 = 5 := by kernel_rfl
    have e2 : DataW.trod enc Try.prog W 0 (fun _ => true) true n 38 (([c0, c1, c2, c3, c4, c5, c6].drop 0).take (Try.prog.cellsOf 38)) = some x0 := this
    rw [ec] at e2
    exact e2
  have b0 : Wt 38 x0.1 := fun n hn => hw2 n (DataW.weights_mem_each (j := 0) rfl rfl n hn)
  have h1 : Td enc W n 29 [c5, c6] x1 := by
    have := hf 1 _ rfl
    have ec : Try.prog.cellsOf 29 = 2 := by kernel_rfl
    have e2 : DataW.trod enc Try.prog W 0 (fun _ => true) true n 29 (([c0, c1, c2, c3, c4, c5, c6].drop 5).take (Try.prog.cellsOf 29)) = some x1 := this
    rw [ec] at e2
    exact e2
  have b1 : Wt 29 x1.1 := fun n hn => hw2 n (DataW.weights_mem_each (j := 1) rfl rfl n hn)
  clear hf h hxs hl
  obtain ⟨y, ce0, in0, le0⟩ := seg_in h0 b0
  simp only [cl_seg, List.cons.injEq, and_true] at ce0
  obtain ⟨rfl, rfl, rfl, rfl, rfl⟩ := ce0
  obtain ⟨F, T, ce1, in1, in1b, le1⟩ := span_in h1 b1
  simp only [List.cons.injEq, and_true] at ce1
  obtain ⟨rfl, rfl⟩ := ce1
  have e3 : Rows.uptoBulk (DataW.agg (([x0, x1] : List (DataW H × List MemPlace)).map (·.1))) = Rows.uptoBulk x0.1 + (Rows.uptoBulk x1.1 + 0) + 1 := by simp [Rows.uptoBulk, Rows.uptoBulkAll]
  refine ⟨y, F, T, rfl, in0, in1, in1b, ?_⟩
  rw [e3]
  exact Le.up (Le.app le0 (Le.zero le1))
theorem order_in  : ∀ {fuel : Nat} {cs : List Value} {x : DataW H × List MemPlace}, Td enc W fuel 42 cs x → Wt 42 x.1 → ∃ (d : Bool) (y : Sg) (n2 : Int), cs = [.bool d, .int .i64 y.F, .int .i64 y.T, .int .i64 y.V, .int .i64 y.P, .int .i64 y.C, .int .i64 n2] ∧ y.In ∧ In64 n2 ∧ Le (eb d ++ (r_seg y ++ ei n2)) (Rows.uptoBulk x.1) := by
  intro fuel cs x h hb
  obtain ⟨xs, n, rfl, rfl, hl, hxs, hf⟩ := DataW.trod_struct Try.underlying42 h
  have hl : cs.length = 7 := hl.trans (by kernel_rfl)
  obtain ⟨c0, c1, c2, c3, c4, c5, c6, rfl⟩ : ∃ c0 c1 c2 c3 c4 c5 c6, cs = [c0, c1, c2, c3, c4, c5, c6] := by
    match cs, hl with
    | [c0, c1, c2, c3, c4, c5, c6], _ => exact ⟨c0, c1, c2, c3, c4, c5, c6, rfl⟩
  have hxs : xs.length = 3 := hxs
  obtain ⟨x0, x1, x2, rfl⟩ : ∃ x0 x1 x2, xs = [x0, x1, x2] := by
    match xs, hxs with
    | [x0, x1, x2], _ => exact ⟨x0, x1, x2, rfl⟩
  have hw2 : ∀ n ∈ DataW.weightsEach Try.prog [4, 38, 3] [x0.1, x1.1, x2.1], n ≤ reachBytes := fun n hn => hb n (by simpa [DataW.weights, Try.underlying42] using hn)
  have h0 : Td enc W n 4 [c0] x0 := by
    have := hf 0 _ rfl
    have ec : Try.prog.cellsOf 4 = 1 := by kernel_rfl
    have e2 : DataW.trod enc Try.prog W 0 (fun _ => true) true n 4 (([c0, c1, c2, c3, c4, c5, c6].drop 0).take (Try.prog.cellsOf 4)) = some x0 := this
    rw [ec] at e2
    exact e2
  have b0 : Wt 4 x0.1 := fun n hn => hw2 n (DataW.weights_mem_each (j := 0) rfl rfl n hn)
  have h1 : Td enc W n 38 [c1, c2, c3, c4, c5] x1 := by
    have := hf 1 _ rfl
    have ec : Try.prog.cellsOf 38 = 5 := by kernel_rfl
    have e2 : DataW.trod enc Try.prog W 0 (fun _ => true) true n 38 (([c0, c1, c2, c3, c4, c5, c6].drop 1).take (Try.prog.cellsOf 38)) = some x1 := this
    rw [ec] at e2
    exact e2
  have b1 : Wt 38 x1.1 := fun n hn => hw2 n (DataW.weights_mem_each (j := 1) rfl rfl n hn)
  have h2 : Td enc W n 3 [c6] x2 := by
    have := hf 2 _ rfl
    have ec : Try.prog.cellsOf 3 = 1 := by kernel_rfl
    have e2 : DataW.trod enc Try.prog W 0 (fun _ => true) true n 3 (([c0, c1, c2, c3, c4, c5, c6].drop 6).take (Try.prog.cellsOf 3)) = some x2 := this
    rw [ec] at e2
    exact e2
  have b2 : Wt 3 x2.1 := fun n hn => hw2 n (DataW.weights_mem_each (j := 2) rfl rfl n hn)
  clear hf h hxs hl
  obtain ⟨d, ce0, le0⟩ := bool_in Try.underlying4 h0
  simp only [List.cons.injEq, and_true] at ce0
  subst ce0
  obtain ⟨y, ce1, in1, le1⟩ := seg_in h1 b1
  simp only [cl_seg, List.cons.injEq, and_true] at ce1
  obtain ⟨rfl, rfl, rfl, rfl, rfl⟩ := ce1
  obtain ⟨n2, ce2, in2, le2⟩ := i64_in Try.underlying3 h2
  simp only [List.cons.injEq, and_true] at ce2
  subst ce2
  have e3 : Rows.uptoBulk (DataW.agg (([x0, x1, x2] : List (DataW H × List MemPlace)).map (·.1))) = Rows.uptoBulk x0.1 + (Rows.uptoBulk x1.1 + (Rows.uptoBulk x2.1 + 0)) + 1 := by simp [Rows.uptoBulk, Rows.uptoBulkAll]
  refine ⟨d, y, n2, rfl, in1, in2, ?_⟩
  rw [e3]
  exact Le.up (Le.app le0 (Le.app le1 (Le.zero le2)))
theorem msg_in  : ∀ {fuel : Nat} {cs : List Value} {x : DataW H × List MemPlace}, Td enc W fuel 46 cs x → Wt 46 x.1 → ∃ m : Mm, cs = ((.int .i64 m.kind) :: (.int .i64 m.frm) :: (.int .i64 m.to) :: (.int .u64 (m.id : Nat)) :: (.int .u64 (m.ask : Nat)) :: (.int .u64 (m.off : Nat)) :: (.int .i64 m.term) :: (.int .u64 (m.cnt : Nat)) :: (.int .i64 m.code) :: (.int .i64 m.ft) :: (m.fdv) :: (m.fmv) :: (.int .i64 m.q.F) :: (.int .i64 m.q.T) :: (.int .i64 m.q.t.k) :: (.int .i64 m.q.t.d) :: (m.q.t.tv) :: (.int .i64 m.q.t.lo) :: (.int .i64 m.q.t.hi) :: (m.q.t.kv) :: (.int .i64 m.q.g) :: (m.q.sv) :: (m.q.av) :: (.int .i64 m.q.G) :: (.int .i64 m.q.R) :: (.int .i64 m.ps.F) :: (.int .i64 m.ps.T) :: (.int .i64 m.ps.V) :: (.int .i64 m.ps.P) :: (.int .i64 m.ps.C) :: (.int .i64 m.pF) :: (.int .i64 m.pT) :: (.bool m.od) :: (.int .i64 m.os.F) :: (.int .i64 m.os.T) :: (.int .i64 m.os.V) :: (.int .i64 m.os.P) :: (.int .i64 m.os.C) :: (.int .i64 m.on) :: (m.sv) :: (m.gv) :: []) ∧ m.Ok W ∧ Le (r_msg m) (Rows.uptoBulk x.1) := by
  intro fuel cs x h hb
  obtain ⟨xs, n, rfl, rfl, hl, hxs, hf⟩ := DataW.trod_struct Try.underlying46 h
  have hl : cs.length = 41 := hl.trans (by kernel_rfl)
  obtain ⟨c0, c1, c2, c3, c4, c5, c6, c7, c8, c9, c10, c11, c12, c13, c14, c15, c16, c17, c18, c19, c20, c21, c22, c23, c24, c25, c26, c27, c28, c29, c30, c31, c32, c33, c34, c35, c36, c37, c38, c39, c40, rfl⟩ : ∃ c0 c1 c2 c3 c4 c5 c6 c7 c8 c9 c10 c11 c12 c13 c14 c15 c16 c17 c18 c19 c20 c21 c22 c23 c24 c25 c26 c27 c28 c29 c30 c31 c32 c33 c34 c35 c36 c37 c38 c39 c40, cs = c0 :: c1 :: c2 :: c3 :: c4 :: c5 :: c6 :: c7 :: c8 :: c9 :: c10 :: c11 :: c12 :: c13 :: c14 :: c15 :: c16 :: c17 :: c18 :: c19 :: c20 :: c21 :: c22 :: c23 :: c24 :: c25 :: c26 :: c27 :: c28 :: c29 :: c30 :: c31 :: c32 :: c33 :: c34 :: c35 :: c36 :: c37 :: c38 :: c39 :: c40 :: [] := by
    match cs, hl with
    | c0 :: c1 :: c2 :: c3 :: c4 :: c5 :: c6 :: c7 :: c8 :: c9 :: c10 :: c11 :: c12 :: c13 :: c14 :: c15 :: c16 :: c17 :: c18 :: c19 :: c20 :: c21 :: c22 :: c23 :: c24 :: c25 :: c26 :: c27 :: c28 :: c29 :: c30 :: c31 :: c32 :: c33 :: c34 :: c35 :: c36 :: c37 :: c38 :: c39 :: c40 :: [], _ => exact ⟨c0, c1, c2, c3, c4, c5, c6, c7, c8, c9, c10, c11, c12, c13, c14, c15, c16, c17, c18, c19, c20, c21, c22, c23, c24, c25, c26, c27, c28, c29, c30, c31, c32, c33, c34, c35, c36, c37, c38, c39, c40, rfl⟩
  have hxs : xs.length = 15 := hxs
  obtain ⟨x0, x1, x2, x3, x4, x5, x6, x7, x8, x9, x10, x11, x12, x13, x14, rfl⟩ : ∃ x0 x1 x2 x3 x4 x5 x6 x7 x8 x9 x10 x11 x12 x13 x14, xs = [x0, x1, x2, x3, x4, x5, x6, x7, x8, x9, x10, x11, x12, x13, x14] := by
    match xs, hxs with
    | [x0, x1, x2, x3, x4, x5, x6, x7, x8, x9, x10, x11, x12, x13, x14], _ => exact ⟨x0, x1, x2, x3, x4, x5, x6, x7, x8, x9, x10, x11, x12, x13, x14, rfl⟩
  have hw2 : ∀ n ∈ DataW.weightsEach Try.prog [3, 3, 3, 22, 22, 22, 3, 22, 23, 27, 36, 40, 42, 43, 44] [x0.1, x1.1, x2.1, x3.1, x4.1, x5.1, x6.1, x7.1, x8.1, x9.1, x10.1, x11.1, x12.1, x13.1, x14.1], n ≤ reachBytes := fun n hn => hb n (by simpa [DataW.weights, Try.underlying46] using hn)
  have h0 : Td enc W n 3 [c0] x0 := by
    have := hf 0 _ rfl
    have ec : Try.prog.cellsOf 3 = 1 := by kernel_rfl
    have e2 : DataW.trod enc Try.prog W 0 (fun _ => true) true n 3 (((c0 :: c1 :: c2 :: c3 :: c4 :: c5 :: c6 :: c7 :: c8 :: c9 :: c10 :: c11 :: c12 :: c13 :: c14 :: c15 :: c16 :: c17 :: c18 :: c19 :: c20 :: c21 :: c22 :: c23 :: c24 :: c25 :: c26 :: c27 :: c28 :: c29 :: c30 :: c31 :: c32 :: c33 :: c34 :: c35 :: c36 :: c37 :: c38 :: c39 :: c40 :: []).drop 0).take (Try.prog.cellsOf 3)) = some x0 := this
    rw [ec] at e2
    exact e2
  have b0 : Wt 3 x0.1 := fun n hn => hw2 n (DataW.weights_mem_each (j := 0) rfl rfl n hn)
  have h1 : Td enc W n 3 [c1] x1 := by
    have := hf 1 _ rfl
    have ec : Try.prog.cellsOf 3 = 1 := by kernel_rfl
    have e2 : DataW.trod enc Try.prog W 0 (fun _ => true) true n 3 (((c0 :: c1 :: c2 :: c3 :: c4 :: c5 :: c6 :: c7 :: c8 :: c9 :: c10 :: c11 :: c12 :: c13 :: c14 :: c15 :: c16 :: c17 :: c18 :: c19 :: c20 :: c21 :: c22 :: c23 :: c24 :: c25 :: c26 :: c27 :: c28 :: c29 :: c30 :: c31 :: c32 :: c33 :: c34 :: c35 :: c36 :: c37 :: c38 :: c39 :: c40 :: []).drop 1).take (Try.prog.cellsOf 3)) = some x1 := this
    rw [ec] at e2
    exact e2
  have b1 : Wt 3 x1.1 := fun n hn => hw2 n (DataW.weights_mem_each (j := 1) rfl rfl n hn)
  have h2 : Td enc W n 3 [c2] x2 := by
    have := hf 2 _ rfl
    have ec : Try.prog.cellsOf 3 = 1 := by kernel_rfl
    have e2 : DataW.trod enc Try.prog W 0 (fun _ => true) true n 3 (((c0 :: c1 :: c2 :: c3 :: c4 :: c5 :: c6 :: c7 :: c8 :: c9 :: c10 :: c11 :: c12 :: c13 :: c14 :: c15 :: c16 :: c17 :: c18 :: c19 :: c20 :: c21 :: c22 :: c23 :: c24 :: c25 :: c26 :: c27 :: c28 :: c29 :: c30 :: c31 :: c32 :: c33 :: c34 :: c35 :: c36 :: c37 :: c38 :: c39 :: c40 :: []).drop 2).take (Try.prog.cellsOf 3)) = some x2 := this
    rw [ec] at e2
    exact e2
  have b2 : Wt 3 x2.1 := fun n hn => hw2 n (DataW.weights_mem_each (j := 2) rfl rfl n hn)
  have h3 : Td enc W n 22 [c3] x3 := by
    have := hf 3 _ rfl
    have ec : Try.prog.cellsOf 22 = 1 := by kernel_rfl
    have e2 : DataW.trod enc Try.prog W 0 (fun _ => true) true n 22 (((c0 :: c1 :: c2 :: c3 :: c4 :: c5 :: c6 :: c7 :: c8 :: c9 :: c10 :: c11 :: c12 :: c13 :: c14 :: c15 :: c16 :: c17 :: c18 :: c19 :: c20 :: c21 :: c22 :: c23 :: c24 :: c25 :: c26 :: c27 :: c28 :: c29 :: c30 :: c31 :: c32 :: c33 :: c34 :: c35 :: c36 :: c37 :: c38 :: c39 :: c40 :: []).drop 3).take (Try.prog.cellsOf 22)) = some x3 := this
    rw [ec] at e2
    exact e2
  have b3 : Wt 22 x3.1 := fun n hn => hw2 n (DataW.weights_mem_each (j := 3) rfl rfl n hn)
  have h4 : Td enc W n 22 [c4] x4 := by
    have := hf 4 _ rfl
    have ec : Try.prog.cellsOf 22 = 1 := by kernel_rfl
    have e2 : DataW.trod enc Try.prog W 0 (fun _ => true) true n 22 (((c0 :: c1 :: c2 :: c3 :: c4 :: c5 :: c6 :: c7 :: c8 :: c9 :: c10 :: c11 :: c12 :: c13 :: c14 :: c15 :: c16 :: c17 :: c18 :: c19 :: c20 :: c21 :: c22 :: c23 :: c24 :: c25 :: c26 :: c27 :: c28 :: c29 :: c30 :: c31 :: c32 :: c33 :: c34 :: c35 :: c36 :: c37 :: c38 :: c39 :: c40 :: []).drop 4).take (Try.prog.cellsOf 22)) = some x4 := this
    rw [ec] at e2
    exact e2
  have b4 : Wt 22 x4.1 := fun n hn => hw2 n (DataW.weights_mem_each (j := 4) rfl rfl n hn)
  have h5 : Td enc W n 22 [c5] x5 := by
    have := hf 5 _ rfl
    have ec : Try.prog.cellsOf 22 = 1 := by kernel_rfl
    have e2 : DataW.trod enc Try.prog W 0 (fun _ => true) true n 22 (((c0 :: c1 :: c2 :: c3 :: c4 :: c5 :: c6 :: c7 :: c8 :: c9 :: c10 :: c11 :: c12 :: c13 :: c14 :: c15 :: c16 :: c17 :: c18 :: c19 :: c20 :: c21 :: c22 :: c23 :: c24 :: c25 :: c26 :: c27 :: c28 :: c29 :: c30 :: c31 :: c32 :: c33 :: c34 :: c35 :: c36 :: c37 :: c38 :: c39 :: c40 :: []).drop 5).take (Try.prog.cellsOf 22)) = some x5 := this
    rw [ec] at e2
    exact e2
  have b5 : Wt 22 x5.1 := fun n hn => hw2 n (DataW.weights_mem_each (j := 5) rfl rfl n hn)
  have h6 : Td enc W n 3 [c6] x6 := by
    have := hf 6 _ rfl
    have ec : Try.prog.cellsOf 3 = 1 := by kernel_rfl
    have e2 : DataW.trod enc Try.prog W 0 (fun _ => true) true n 3 (((c0 :: c1 :: c2 :: c3 :: c4 :: c5 :: c6 :: c7 :: c8 :: c9 :: c10 :: c11 :: c12 :: c13 :: c14 :: c15 :: c16 :: c17 :: c18 :: c19 :: c20 :: c21 :: c22 :: c23 :: c24 :: c25 :: c26 :: c27 :: c28 :: c29 :: c30 :: c31 :: c32 :: c33 :: c34 :: c35 :: c36 :: c37 :: c38 :: c39 :: c40 :: []).drop 6).take (Try.prog.cellsOf 3)) = some x6 := this
    rw [ec] at e2
    exact e2
  have b6 : Wt 3 x6.1 := fun n hn => hw2 n (DataW.weights_mem_each (j := 6) rfl rfl n hn)
  have h7 : Td enc W n 22 [c7] x7 := by
    have := hf 7 _ rfl
    have ec : Try.prog.cellsOf 22 = 1 := by kernel_rfl
    have e2 : DataW.trod enc Try.prog W 0 (fun _ => true) true n 22 (((c0 :: c1 :: c2 :: c3 :: c4 :: c5 :: c6 :: c7 :: c8 :: c9 :: c10 :: c11 :: c12 :: c13 :: c14 :: c15 :: c16 :: c17 :: c18 :: c19 :: c20 :: c21 :: c22 :: c23 :: c24 :: c25 :: c26 :: c27 :: c28 :: c29 :: c30 :: c31 :: c32 :: c33 :: c34 :: c35 :: c36 :: c37 :: c38 :: c39 :: c40 :: []).drop 7).take (Try.prog.cellsOf 22)) = some x7 := this
    rw [ec] at e2
    exact e2
  have b7 : Wt 22 x7.1 := fun n hn => hw2 n (DataW.weights_mem_each (j := 7) rfl rfl n hn)
  have h8 : Td enc W n 23 [c8] x8 := by
    have := hf 8 _ rfl
    have ec : Try.prog.cellsOf 23 = 1 := by kernel_rfl
    have e2 : DataW.trod enc Try.prog W 0 (fun _ => true) true n 23 (((c0 :: c1 :: c2 :: c3 :: c4 :: c5 :: c6 :: c7 :: c8 :: c9 :: c10 :: c11 :: c12 :: c13 :: c14 :: c15 :: c16 :: c17 :: c18 :: c19 :: c20 :: c21 :: c22 :: c23 :: c24 :: c25 :: c26 :: c27 :: c28 :: c29 :: c30 :: c31 :: c32 :: c33 :: c34 :: c35 :: c36 :: c37 :: c38 :: c39 :: c40 :: []).drop 8).take (Try.prog.cellsOf 23)) = some x8 := this
    rw [ec] at e2
    exact e2
  have b8 : Wt 23 x8.1 := fun n hn => hw2 n (DataW.weights_mem_each (j := 8) rfl rfl n hn)
  have h9 : Td enc W n 27 [c9, c10, c11] x9 := by
    have := hf 9 _ rfl
    have ec : Try.prog.cellsOf 27 = 3 := by kernel_rfl
    have e2 : DataW.trod enc Try.prog W 0 (fun _ => true) true n 27 (((c0 :: c1 :: c2 :: c3 :: c4 :: c5 :: c6 :: c7 :: c8 :: c9 :: c10 :: c11 :: c12 :: c13 :: c14 :: c15 :: c16 :: c17 :: c18 :: c19 :: c20 :: c21 :: c22 :: c23 :: c24 :: c25 :: c26 :: c27 :: c28 :: c29 :: c30 :: c31 :: c32 :: c33 :: c34 :: c35 :: c36 :: c37 :: c38 :: c39 :: c40 :: []).drop 9).take (Try.prog.cellsOf 27)) = some x9 := this
    rw [ec] at e2
    exact e2
  have b9 : Wt 27 x9.1 := fun n hn => hw2 n (DataW.weights_mem_each (j := 9) rfl rfl n hn)
  have h10 : Td enc W n 36 [c12, c13, c14, c15, c16, c17, c18, c19, c20, c21, c22, c23, c24] x10 := by
    have := hf 10 _ rfl
    have ec : Try.prog.cellsOf 36 = 13 := by kernel_rfl
    have e2 : DataW.trod enc Try.prog W 0 (fun _ => true) true n 36 (((c0 :: c1 :: c2 :: c3 :: c4 :: c5 :: c6 :: c7 :: c8 :: c9 :: c10 :: c11 :: c12 :: c13 :: c14 :: c15 :: c16 :: c17 :: c18 :: c19 :: c20 :: c21 :: c22 :: c23 :: c24 :: c25 :: c26 :: c27 :: c28 :: c29 :: c30 :: c31 :: c32 :: c33 :: c34 :: c35 :: c36 :: c37 :: c38 :: c39 :: c40 :: []).drop 12).take (Try.prog.cellsOf 36)) = some x10 := this
    rw [ec] at e2
    exact e2
  have b10 : Wt 36 x10.1 := fun n hn => hw2 n (DataW.weights_mem_each (j := 10) rfl rfl n hn)
  have h11 : Td enc W n 40 [c25, c26, c27, c28, c29, c30, c31] x11 := by
    have := hf 11 _ rfl
    have ec : Try.prog.cellsOf 40 = 7 := by kernel_rfl
    have e2 : DataW.trod enc Try.prog W 0 (fun _ => true) true n 40 (((c0 :: c1 :: c2 :: c3 :: c4 :: c5 :: c6 :: c7 :: c8 :: c9 :: c10 :: c11 :: c12 :: c13 :: c14 :: c15 :: c16 :: c17 :: c18 :: c19 :: c20 :: c21 :: c22 :: c23 :: c24 :: c25 :: c26 :: c27 :: c28 :: c29 :: c30 :: c31 :: c32 :: c33 :: c34 :: c35 :: c36 :: c37 :: c38 :: c39 :: c40 :: []).drop 25).take (Try.prog.cellsOf 40)) = some x11 := this
    rw [ec] at e2
    exact e2
  have b11 : Wt 40 x11.1 := fun n hn => hw2 n (DataW.weights_mem_each (j := 11) rfl rfl n hn)
  have h12 : Td enc W n 42 [c32, c33, c34, c35, c36, c37, c38] x12 := by
    have := hf 12 _ rfl
    have ec : Try.prog.cellsOf 42 = 7 := by kernel_rfl
    have e2 : DataW.trod enc Try.prog W 0 (fun _ => true) true n 42 (((c0 :: c1 :: c2 :: c3 :: c4 :: c5 :: c6 :: c7 :: c8 :: c9 :: c10 :: c11 :: c12 :: c13 :: c14 :: c15 :: c16 :: c17 :: c18 :: c19 :: c20 :: c21 :: c22 :: c23 :: c24 :: c25 :: c26 :: c27 :: c28 :: c29 :: c30 :: c31 :: c32 :: c33 :: c34 :: c35 :: c36 :: c37 :: c38 :: c39 :: c40 :: []).drop 32).take (Try.prog.cellsOf 42)) = some x12 := this
    rw [ec] at e2
    exact e2
  have b12 : Wt 42 x12.1 := fun n hn => hw2 n (DataW.weights_mem_each (j := 12) rfl rfl n hn)
  have h13 : Td enc W n 43 [c39] x13 := by
    have := hf 13 _ rfl
    have ec : Try.prog.cellsOf 43 = 1 := by kernel_rfl
    have e2 : DataW.trod enc Try.prog W 0 (fun _ => true) true n 43 (((c0 :: c1 :: c2 :: c3 :: c4 :: c5 :: c6 :: c7 :: c8 :: c9 :: c10 :: c11 :: c12 :: c13 :: c14 :: c15 :: c16 :: c17 :: c18 :: c19 :: c20 :: c21 :: c22 :: c23 :: c24 :: c25 :: c26 :: c27 :: c28 :: c29 :: c30 :: c31 :: c32 :: c33 :: c34 :: c35 :: c36 :: c37 :: c38 :: c39 :: c40 :: []).drop 39).take (Try.prog.cellsOf 43)) = some x13 := this
    rw [ec] at e2
    exact e2
  have b13 : Wt 43 x13.1 := fun n hn => hw2 n (DataW.weights_mem_each (j := 13) rfl rfl n hn)
  have h14 : Td enc W n 44 [c40] x14 := by
    have := hf 14 _ rfl
    have ec : Try.prog.cellsOf 44 = 1 := by kernel_rfl
    have e2 : DataW.trod enc Try.prog W 0 (fun _ => true) true n 44 (((c0 :: c1 :: c2 :: c3 :: c4 :: c5 :: c6 :: c7 :: c8 :: c9 :: c10 :: c11 :: c12 :: c13 :: c14 :: c15 :: c16 :: c17 :: c18 :: c19 :: c20 :: c21 :: c22 :: c23 :: c24 :: c25 :: c26 :: c27 :: c28 :: c29 :: c30 :: c31 :: c32 :: c33 :: c34 :: c35 :: c36 :: c37 :: c38 :: c39 :: c40 :: []).drop 40).take (Try.prog.cellsOf 44)) = some x14 := this
    rw [ec] at e2
    exact e2
  have b14 : Wt 44 x14.1 := fun n hn => hw2 n (DataW.weights_mem_each (j := 14) rfl rfl n hn)
  clear hf h hxs hl
  obtain ⟨kind, ce0, in0, le0⟩ := i64_in Try.underlying3 h0
  simp only [List.cons.injEq, and_true] at ce0
  subst ce0
  obtain ⟨frm, ce1, in1, le1⟩ := i64_in Try.underlying3 h1
  simp only [List.cons.injEq, and_true] at ce1
  subst ce1
  obtain ⟨to, ce2, in2, le2⟩ := i64_in Try.underlying3 h2
  simp only [List.cons.injEq, and_true] at ce2
  subst ce2
  obtain ⟨id, ce3, in3, le3⟩ := u64_in Try.underlying22 h3
  simp only [List.cons.injEq, and_true] at ce3
  subst ce3
  obtain ⟨ask, ce4, in4, le4⟩ := u64_in Try.underlying22 h4
  simp only [List.cons.injEq, and_true] at ce4
  subst ce4
  obtain ⟨off, ce5, in5, le5⟩ := u64_in Try.underlying22 h5
  simp only [List.cons.injEq, and_true] at ce5
  subst ce5
  obtain ⟨term, ce6, in6, le6⟩ := i64_in Try.underlying3 h6
  simp only [List.cons.injEq, and_true] at ce6
  subst ce6
  obtain ⟨cnt, ce7, in7, le7⟩ := u64_in Try.underlying22 h7
  simp only [List.cons.injEq, and_true] at ce7
  subst ce7
  obtain ⟨code, ce8, in8, le8⟩ := i64_in Try.underlying23 h8
  simp only [List.cons.injEq, and_true] at ce8
  subst ce8
  obtain ⟨ft, fdv, fds, fmv, fms, ce9, in9, ls9, in9b, ls9b, in9c, le9⟩ := fact_in h9 b9
  simp only [List.cons.injEq, and_true] at ce9
  obtain ⟨rfl, rfl, rfl⟩ := ce9
  obtain ⟨q, ce10, in10, le10⟩ := query_in h10 b10
  simp only [List.cons.injEq, and_true] at ce10
  obtain ⟨rfl, rfl, rfl, rfl, rfl, rfl, rfl, rfl, rfl, rfl, rfl, rfl, rfl⟩ := ce10
  obtain ⟨ps, pF, pT, ce11, in11, in11b, in11c, le11⟩ := piece_in h11 b11
  simp only [List.cons.injEq, and_true] at ce11
  obtain ⟨rfl, rfl, rfl, rfl, rfl, rfl, rfl⟩ := ce11
  obtain ⟨od, os, on, ce12, in12, in12b, le12⟩ := order_in h12 b12
  simp only [List.cons.injEq, and_true] at ce12
  obtain ⟨rfl, rfl, rfl, rfl, rfl, rfl, rfl⟩ := ce12
  obtain ⟨sv, sg, ce13, ls13, in13, le13⟩ := segs_in h13 b13
  simp only [List.cons.injEq, and_true] at ce13
  subst ce13
  obtain ⟨gv, gp, ce14, ls14, in14, le14⟩ := grps_in h14 b14
  simp only [List.cons.injEq, and_true] at ce14
  subst ce14
  have e3 : Rows.uptoBulk (DataW.agg (([x0, x1, x2, x3, x4, x5, x6, x7, x8, x9, x10, x11, x12, x13, x14] : List (DataW H × List MemPlace)).map (·.1))) = Rows.uptoBulk x0.1 + (Rows.uptoBulk x1.1 + (Rows.uptoBulk x2.1 + (Rows.uptoBulk x3.1 + (Rows.uptoBulk x4.1 + (Rows.uptoBulk x5.1 + (Rows.uptoBulk x6.1 + (Rows.uptoBulk x7.1 + (Rows.uptoBulk x8.1 + (Rows.uptoBulk x9.1 + (Rows.uptoBulk x10.1 + (Rows.uptoBulk x11.1 + (Rows.uptoBulk x12.1 + (Rows.uptoBulk x13.1 + (Rows.uptoBulk x14.1 + 0)))))))))))))) + 1 := by simp [Rows.uptoBulk, Rows.uptoBulkAll]
  refine ⟨⟨kind, frm, to, id, ask, off, term, cnt, code, ft, _, fds, _, fms, q, ps, pF, pT, od, os, on, _, sg, _, gp⟩, rfl, ⟨in0, in1, in2, in3, in4, in5, in6, in7, in8, in9, ls9, in9b, ls9b, in9c, in10, in11, in11b, in11c, in12, in12b, ls13, in13, ls14, in14⟩, ?_⟩
  rw [e3]
  exact Le.of (Le.up (Le.app le0 (Le.app le1 (Le.app le2 (Le.app le3 (Le.app le4 (Le.app le5 (Le.app le6 (Le.app le7 (Le.app le8 (Le.app le9 (Le.app le10 (Le.app le11 (Le.app le12 (Le.app le13 (Le.zero le14)))))))))))))))) (by simp only [r_msg, List.append_assoc])
end
end Go.Proofs.Ytpdlioidiobbbaa
