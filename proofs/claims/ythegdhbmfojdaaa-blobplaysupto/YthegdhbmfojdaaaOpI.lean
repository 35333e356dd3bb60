/- Rows of bytes and of raw calls that came in, as the row's reading opens it. -/
import Derived.Test.YthegdhbmfojdaaaRows
import Derived.Test.YthegdhbmfojdaaaRowIn
import Derived.Test.YthegdhbmfojdaaaDsk
import Derived.OpenShut
import Derived.SliceStrings
namespace Go.Proofs.Ythegdhbmfojdaaa
open Go.RowKit Go.ChangeShapes Go.WideShapes
set_option maxRecDepth 100000

theorem bulk_mem {H : Type} {d : DataW H} {l : List (DataW H)} (h : d ∈ l) : Rows.uptoBulk d ≤ Rows.uptoBulkAll l := by
  induction l with
  | nil => cases h
  | cons x r ih =>
    simp only [Rows.uptoBulkAll]
    cases List.mem_cons.1 h with
    | inl e => subst e; omega
    | inr e => have := ih e; omega
theorem pick_all {α : Type} (Q : Nat → α → Prop) : ∀ (n : Nat), (∀ i, i < n → ∃ a, Q i a) → ∃ l : List α, l.length = n ∧ ∀ i (hi : i < l.length), Q i l[i]
  | 0, _ => ⟨[], rfl, fun i hi => by simp at hi⟩
  | n + 1, h => by
    obtain ⟨l, hl, hq⟩ := pick_all Q n fun i hi => h i (by omega)
    obtain ⟨a, ha⟩ := h n (by omega)
    refine ⟨l ++ [a], by simp [hl], fun i hi => ?_⟩
    by_cases hin : i < l.length
    · rw [List.getElem_append_left hin]; exact hq i hin
    · have : i = n := by simp at hi; omega
      subst this
      rw [List.getElem_append_right (by omega)]
      simpa using ha
theorem add_add (a : Addr) (i j : Nat) : (a.add i).add j = a.add (i + j) := by
  by_cases hi : i = 0
  · subst hi; simp [Addr.add]
  · by_cases hj : j = 0
    · subst hj; simp [Addr.add]
    · simp [Addr.add, hi, hj, Nat.add_assoc]
/-- A raw call, as it lies in memory. -/
structure OpM where
  K : Int
  A : Str
  u : Value
  bs : Str
  n : Int
def OpM.cs (o : OpM) : List Value := [.int .i64 o.K, .string ⟨o.A.toArray⟩, o.u, .int .i64 o.n]
structure OpM.Ok (w : World) (M : Nat) (o : OpM) : Prop where
  k1 : -9223372036854775808 ≤ o.K
  k2 : o.K ≤ 9223372036854775807
  n1 : -9223372036854775808 ≤ o.n
  n2 : o.n ≤ 9223372036854775807
  a : o.A.length ≤ M
  r : Reads w o.u o.bs
  rl : o.bs.length ≤ M
theorem OpM.Ok.below {w w' : World} {M : Nat} {o : OpM} (h : o.Ok w M) (hb : Below w.heap.size w w') : o.Ok w' M := ⟨h.k1, h.k2, h.n1, h.n2, h.a, h.r.below hb, h.rl⟩
/-- A row of them. -/
structure OpR (w : World) (M : Nat) (v : Value) (l : List OpM) : Prop where
  ex : ∃ ao cap, v = .slice ao l.length cap ∧ l.length ≤ cap ∧ cap ≤ maxLen ∧ (0 < l.length → ∃ b off, ao = some ⟨b, off, none⟩ ∧ ∀ i (hi : i < l.length) c u, (l[i]).cs[c]? = some u → w.cell? ⟨b, off + (i * 4 + c), none⟩ = some u)
  ok : ∀ o ∈ l, o.Ok w M
theorem OpR.below {w w' : World} {M : Nat} {v : Value} {l : List OpM} (h : OpR w M v l) (hb : Below w.heap.size w w') : OpR w' M v l := by
  obtain ⟨⟨ao, cap, e, h1, h2, h3⟩, ok⟩ := h
  refine ⟨⟨ao, cap, e, h1, h2, fun hp => ?_⟩, fun o ho => (ok o ho).below hb⟩
  obtain ⟨b, off, e2, h4⟩ := h3 hp
  refine ⟨b, off, e2, fun i hi c u hu => ?_⟩
  have := h4 i hi c u hu
  rw [hb.cell (World.block_lt_of_cell? _ _ this)]
  exact this
theorem OpM.cs_len (o : OpM) : o.cs.length = 4 := rfl
/-- A row of rows of bytes. -/
structure BsR (w : World) (v : Value) (ls : List (Value × Str)) : Prop where
  ex : ∃ ao cap, v = .slice ao ls.length cap ∧ ls.length ≤ cap ∧ cap ≤ maxLen ∧ (0 < ls.length → ∃ b off, ao = some ⟨b, off, none⟩ ∧ ∀ i (hi : i < ls.length), w.cell? ⟨b, off + i, none⟩ = some (ls[i]).1)
  ok : ∀ x ∈ ls, Reads w x.1 x.2
theorem Reads.len_max {w : World} {u : Value} {b : Str} (h : Reads w u b) : b.length ≤ maxLen := by
  obtain ⟨ao, cap, _, h1, h2, _⟩ := h
  exact Nat.le_trans h1 h2
section
variable {H : Type} {enc : TypeId × Value → H} {W : World}
abbrev Td (enc : TypeId × Value → H) (W : World) (fuel : Nat) (t : TypeId) (cs : List Value) (x : DataW H × List MemPlace) : Prop := DataW.trod enc Try.prog W 0 (fun _ => true) true fuel t cs = some x
theorem str_in {fuel : Nat} {cs : List Value} {x : DataW H × List MemPlace} (h : Td enc W fuel 9 cs x) : ∃ t : Str, cs = [.string ⟨t.toArray⟩] ∧ t.length ≤ Rows.uptoBulk x.1 ∧ t.length ≤ maxLen := by
  obtain ⟨s, rfl, rfl, hs⟩ := DataW.trod_string Try.underlying9 h
  have e : Rows.uptoBulk (DataW.lit (H := H) (.string s.data.toList)) = s.data.toList.length + 1 := by simp [Rows.uptoBulk]
  exact ⟨s.data.toList, rfl, by rw [e]; omega, by rw [Array.length_toList]; exact hs⟩
theorem int_in {fuel : Nat} {cs : List Value} {x : DataW H × List MemPlace} (h : Td enc W fuel 3 cs x) : ∃ z : Int, cs = [.int .i64 z] ∧ -9223372036854775808 ≤ z ∧ z ≤ 9223372036854775807 := by
  obtain ⟨z, rfl, rfl, wf⟩ := DataW.trod_int Try.underlying3 h
  exact ⟨z, rfl, bounds_i64 wf⟩
theorem bys_in {fuel : Nat} {cs : List Value} {x : DataW H × List MemPlace} (h : Td enc W fuel 33 cs x) : ∃ (u : Value) (b : Str), cs = [u] ∧ Reads W u b ∧ b.length ≤ Rows.uptoBulk x.1 := by
  rcases DataW.trod_slice Try.underlying33 h with ⟨rfl, rfl⟩ | ⟨a, len, cap, elems, rest, n, rfl, rfl, rfl, _, hl, hm, hlen, he, _, _⟩
  · exact ⟨_, [], rfl, Reads.nil W, by simp⟩
  · rw [show Try.prog.cellsOf 5 = 1 by kernel_rfl] at he
    obtain ⟨l, hll, hq⟩ := pick_all (fun i (b : UInt8) => W.cell? (a.add i) = some (.int .u8 (b.toNat : Int))) len fun i hi => by
      have hE := he i hi
      have hi' : i < elems.length := by omega
      rw [List.getElem?_eq_getElem hi', Option.bind_eq_some_iff] at hE
      obtain ⟨c1, hc1, hy⟩ := hE
      obtain ⟨z, hz, _, wf⟩ := DataW.trod_int Try.underlying5 hy
      obtain ⟨_, _, hcell⟩ := World.cells?_some hc1
      have h0 := hcell 0 (by omega)
      rw [Nat.mul_one] at h0
      have hbd := bounds_u8 wf
      refine ⟨UInt8.ofNat z.toNat, ?_⟩
      have e0 : (a.add i).add 0 = a.add i := by rw [add_add]; rfl
      rw [e0, hz] at h0
      rw [h0]
      simp
      omega
    refine ⟨_, l, rfl, ⟨some a, cap, by rw [hll], by omega, hm, (fun h => by cases h), ?_⟩, ?_⟩
    · rintro ad ⟨rfl⟩ j u hj
      have hj' : j < l.length := by have := (List.getElem?_eq_some_iff.1 hj).1; rwa [bv_length] at this
      rw [bv_get l j hj'] at hj
      cases hj
      rw [hq j hj']
      simp [hj']
    · have hb : Rows.uptoBulk (DataW.slice (elems.map (·.1)) (rest.map (·.1))) = Rows.uptoBulkAll (elems.map (·.1)) + Rows.uptoBulkAll (rest.map (·.1)) + 1 := by simp [Rows.uptoBulk]
      rw [hb, hll]
      have : ∀ (m : List (DataW H)), m.length ≤ Rows.uptoBulkAll m := fun m => by
        induction m with
        | nil => simp
        | cons y m ih =>
          simp only [Rows.uptoBulkAll, List.length_cons]
          have : 1 ≤ Rows.uptoBulk y := by
            cases y with
            | lit l => cases l <;> simp [Rows.uptoBulk]
            | nil => simp [Rows.uptoBulk]
            | ptr d => simp [Rows.uptoBulk]
            | slice elems spare => simp [Rows.uptoBulk]
            | agg parts => simp [Rows.uptoBulk]
            | iface t d => simp [Rows.uptoBulk]
            | map entries => simp [Rows.uptoBulk]
            | held h => simp [Rows.uptoBulk]
          omega
      have h1 := this (elems.map (·.1))
      rw [List.length_map] at h1
      omega
theorem bss_in {fuel : Nat} {cs : List Value} {x : DataW H × List MemPlace} (h : Td enc W fuel 54 cs x) : ∃ v l, cs = [v] ∧ BsR W v l := by
  rcases DataW.trod_slice Try.underlying54 h with ⟨rfl, rfl⟩ | ⟨a, len, cap, elems, rest, n, rfl, rfl, rfl, _, hl, hm, hlen, he, _, _⟩
  · exact ⟨_, [], rfl, ⟨⟨none, 0, rfl, by simp, Nat.zero_le _, fun h => by simp at h⟩, fun _ h => by cases h⟩⟩
  · rw [show Try.prog.cellsOf 33 = 1 by kernel_rfl] at he
    obtain ⟨l, hll, hq⟩ := pick_all (fun i (o : Value × Str) => Reads W o.1 o.2 ∧ W.cell? (a.add i) = some o.1) len fun i hi => by
      have hE := he i hi
      have hi' : i < elems.length := by omega
      rw [List.getElem?_eq_getElem hi', Option.bind_eq_some_iff] at hE
      obtain ⟨c1, hc1, hy⟩ := hE
      obtain ⟨u, b, hu, hr, _⟩ := bys_in hy
      obtain ⟨_, _, hcell⟩ := World.cells?_some hc1
      have h0 := hcell 0 (by omega)
      rw [Nat.mul_one] at h0
      have e0 : (a.add i).add 0 = a.add i := by rw [add_add]; rfl
      rw [e0, hu] at h0
      exact ⟨(u, b), hr, h0⟩
    refine ⟨_, l, rfl, ⟨some a, cap, by rw [hll], by omega, hm, fun hp => ?_⟩, fun o ho => ?_⟩
    · obtain ⟨b, off, sp⟩ := a
      have hs : sp = none := by
        have := World.cell?_spot ((hq 0 hp).2)
        simpa [Addr.add] using this
      subst hs
      exact ⟨b, off, rfl, fun i hi => by rw [← Addr.add_lit]; exact (hq i hi).2⟩
    · obtain ⟨i, hi, rfl⟩ := List.getElem_of_mem ho
      exact (hq i hi).1
theorem op_in {fuel M : Nat} {cs : List Value} {x : DataW H × List MemPlace} (h : Td enc W fuel 35 cs x) (hb : Rows.uptoBulk x.1 ≤ M ∨ maxLen ≤ M) : ∃ o : OpM, cs = o.cs ∧ o.Ok W M := by
  obtain ⟨xs, n, rfl, rfl, hl, hxs, hf⟩ := DataW.trod_struct Try.underlying35 h
  have hl : cs.length = 4 := hl.trans (by kernel_rfl)
  obtain ⟨c0, c1, c3, c4, rfl⟩ : ∃ c0 c1 c3 c4, cs = [c0, c1, c3, c4] := by
    match cs, hl with
    | [c0, c1, c3, c4], _ => exact ⟨c0, c1, c3, c4, rfl⟩
  have hxs : xs.length = 4 := hxs
  obtain ⟨x0, x1, x3, x4, rfl⟩ : ∃ x0 x1 x3 x4, xs = [x0, x1, x3, x4] := by
    match xs, hxs with
    | [x0, x1, x3, x4], _ => exact ⟨x0, x1, x3, x4, rfl⟩
  have hbb : Rows.uptoBulkAll [x0.1, x1.1, x3.1, x4.1] + 1 ≤ M ∨ maxLen ≤ M := by simpa [Rows.uptoBulk] using hb
  have ei : Try.prog.cellsOf 3 = 1 := by kernel_rfl
  have es : Try.prog.cellsOf 9 = 1 := by kernel_rfl
  have eb : Try.prog.cellsOf 33 = 1 := by kernel_rfl
  have h0 : Td enc W n 3 [c0] x0 := by
    have e2 : DataW.trod enc Try.prog W 0 (fun _ => true) true n 3 (([c0, c1, c3, c4].drop 0).take (Try.prog.cellsOf 3)) = some x0 := hf 0 _ rfl
    rw [ei] at e2
    exact e2
  have h1 : Td enc W n 9 [c1] x1 := by
    have e2 : DataW.trod enc Try.prog W 0 (fun _ => true) true n 9 (([c0, c1, c3, c4].drop 1).take (Try.prog.cellsOf 9)) = some x1 := hf 1 _ rfl
    rw [es] at e2
    exact e2
  have h3 : Td enc W n 33 [c3] x3 := by
    have e2 : DataW.trod enc Try.prog W 0 (fun _ => true) true n 33 (([c0, c1, c3, c4].drop 2).take (Try.prog.cellsOf 33)) = some x3 := hf 2 _ rfl
    rw [eb] at e2
    exact e2
  have h4 : Td enc W n 3 [c4] x4 := by
    have e2 : DataW.trod enc Try.prog W 0 (fun _ => true) true n 3 (([c0, c1, c3, c4].drop 3).take (Try.prog.cellsOf 3)) = some x4 := hf 3 _ rfl
    rw [ei] at e2
    exact e2
  obtain ⟨K, ce0, k1, k2⟩ := int_in h0
  obtain ⟨A, ce1, a1, a2⟩ := str_in h1
  obtain ⟨u, bs, ce3, r1, r2⟩ := bys_in h3
  obtain ⟨M', ce4, m1, m2⟩ := int_in h4
  simp only [List.cons.injEq, and_true] at ce0 ce1 ce3 ce4
  subst ce0 ce1 ce3 ce4
  have q := fun d hd => bulk_mem (d := d) (l := [x0.1, x1.1, x3.1, x4.1]) hd
  have q1 := q x1.1 (by simp)
  have q3 := q x3.1 (by simp)
  have rm := r1.len_max
  exact ⟨⟨K, A, c3, bs, M'⟩, rfl, k1, k2, m1, m2, by simp only; omega, r1, by simp only; omega⟩
theorem ops_in {fuel M : Nat} {cs : List Value} {x : DataW H × List MemPlace} (h : Td enc W fuel 22 cs x) (hb : Rows.uptoBulk x.1 ≤ M ∨ maxLen ≤ M) : ∃ v l, cs = [v] ∧ OpR W M v l := by
  rcases DataW.trod_slice Try.underlying22 h with ⟨rfl, rfl⟩ | ⟨a, len, cap, elems, rest, n, rfl, rfl, rfl, _, hl, hm, hlen, he, _, _⟩
  · exact ⟨_, [], rfl, ⟨⟨none, 0, rfl, by simp, Nat.zero_le _, fun h => by simp at h⟩, fun _ h => by cases h⟩⟩
  · rw [show Try.prog.cellsOf 35 = 4 by kernel_rfl] at he
    have hbb : Rows.uptoBulkAll (elems.map (·.1)) + Rows.uptoBulkAll (rest.map (·.1)) + 1 ≤ M ∨ maxLen ≤ M := by simpa [Rows.uptoBulk] using hb
    obtain ⟨l, hll, hq⟩ := pick_all (fun i (o : OpM) => o.Ok W M ∧ ∀ c v, o.cs[c]? = some v → W.cell? (a.add (i * 4 + c)) = some v) len fun i hi => by
      have hE := he i hi
      have hi' : i < elems.length := by omega
      rw [List.getElem?_eq_getElem hi', Option.bind_eq_some_iff] at hE
      obtain ⟨c1, hc1, hy⟩ := hE
      have hbe : Rows.uptoBulk elems[i].1 ≤ M ∨ maxLen ≤ M := by
        have := bulk_mem (d := elems[i].1) (l := elems.map (·.1)) (List.mem_map.2 ⟨_, List.getElem_mem hi', rfl⟩)
        omega
      obtain ⟨o, hoc, hok⟩ := op_in hy hbe
      refine ⟨o, hok, fun c v hv => ?_⟩
      obtain ⟨_, _, hcell⟩ := World.cells?_some hc1
      rw [← add_add]
      have hck : c < 4 := by have := (List.getElem?_eq_some_iff.1 hv).1; rwa [OpM.cs_len] at this
      rw [hcell c hck, hoc]
      exact hv
    refine ⟨_, l, rfl, ⟨some a, cap, by rw [hll], by omega, hm, fun hp => ?_⟩, fun o ho => ?_⟩
    · obtain ⟨b, off, sp⟩ := a
      have hs : sp = none := by
        have := World.cell?_spot ((hq 0 hp).2 0 _ rfl)
        simpa [Addr.add] using this
      subst hs
      exact ⟨b, off, rfl, fun i hi c u hu => by rw [← Addr.add_lit]; exact (hq i hi).2 c u hu⟩
    · obtain ⟨i, hi, rfl⟩ := List.getElem_of_mem ho
      exact (hq i hi).1
end
end Go.Proofs.Ythegdhbmfojdaaa
