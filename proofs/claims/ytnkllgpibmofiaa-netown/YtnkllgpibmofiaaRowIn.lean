/- A script that came in, as the row's reading opens it. -/
import Derived.Test.YtnkllgpibmofiaaNsw
import Derived.OpenShut
import Derived.SliceStrings
import Derived.SizedLaws
namespace Go.Proofs.Ytnkllgpibmofiaa
open Go.RowKit Go.ChangeShapes Go.WideShapes
set_option linter.unusedVariables false

section
variable {H : Type} {enc : TypeId × Value → H} {W : World} {fuel : Nat} {cs : List Value} {x : DataW H × List MemPlace}
theorem four {α : Type} {l : List α} (h : l.length = 4) : ∃ a b c d, l = [a, b, c, d] := by
  match l, h with
  | [a, b, c, d], _ => exact ⟨a, b, c, d, rfl⟩
/-- A call: its kind, its place, its number. -/
theorem op_in {t ti tu : TypeId} {f0 f1 f2 f3 : Field} (ht : Try.prog.underlying t = some (.struct #[f0, f1, f2, f3])) (hi : Try.prog.underlying ti = some (.int .i64)) (hu : Try.prog.underlying tu = some (.int .u64)) (hci : Try.prog.cellsOf ti = 1) (hcu : Try.prog.cellsOf tu = 1) (hc : 3 ≤ Try.prog.cellsOf t)
    (h0 : f0.type = ti ∧ f0.offset = 0) (h1 : f1.type = ti ∧ f1.offset = 1) (h2 : f2.type = tu ∧ f2.offset = 2) (h : DataW.trod enc Try.prog W 0 (fun _ => true) true fuel t cs = some x) :
    ∃ a : Op3, cs[0]? = some (.int .i64 a.1) ∧ cs[1]? = some (.int .i64 a.2.1) ∧ cs[2]? = some (.int .u64 (a.2.2 : Int)) ∧ B64 a.1 ∧ B64 a.2.1 ∧ U64 a.2.2 := by
  obtain ⟨xs, n, rfl, rfl, hl, hxs, hf⟩ := DataW.trod_struct ht h
  have hx4 : xs.length = 4 := hxs
  obtain ⟨x0, x1, x2, x3, rfl⟩ := four hx4
  have k0 : DataW.trod enc Try.prog W 0 (fun _ => true) true n f0.type ((cs.drop f0.offset).take (Try.prog.cellsOf f0.type)) = some x0 := hf 0 _ rfl
  have k1 : DataW.trod enc Try.prog W 0 (fun _ => true) true n f1.type ((cs.drop f1.offset).take (Try.prog.cellsOf f1.type)) = some x1 := hf 1 _ rfl
  have k2 : DataW.trod enc Try.prog W 0 (fun _ => true) true n f2.type ((cs.drop f2.offset).take (Try.prog.cellsOf f2.type)) = some x2 := hf 2 _ rfl
  rw [h0.1, h0.2, hci] at k0
  rw [h1.1, h1.2, hci] at k1
  rw [h2.1, h2.2, hcu] at k2
  obtain ⟨a, ha, _, wa⟩ := DataW.trod_int hi k0
  obtain ⟨b, hb, _, wb⟩ := DataW.trod_int hi k1
  obtain ⟨c, hcc, _, wc⟩ := DataW.trod_int hu k2
  have get : ∀ o v, (cs.drop o).take 1 = [v] → cs[o]? = some v := fun o v he => by
    have : ((cs.drop o).take 1)[0]? = some v := by rw [he]; rfl
    rw [List.getElem?_take] at this
    simpa using this
  have bu := bounds_u64 wc
  obtain ⟨c', rfl⟩ : ∃ c' : Nat, c = (c' : Int) := ⟨c.toNat, by omega⟩
  exact ⟨(a, b, c'), get 0 _ ha, get 1 _ hb, get 2 _ hcc, bounds_i64 wa, bounds_i64 wb, by show c' < _; omega⟩
theorem pick_all {α : Type} (Q : Nat → α → Prop) : ∀ (n : Nat), (∀ i, i < n → ∃ a, Q i a) → ∃ l : List α, l.length = n ∧ ∀ i (hi : i < l.length), Q i l[i]
  | 0, _ => ⟨[], rfl, fun i hi => by simp at hi⟩
  | n + 1, h => by
    obtain ⟨l, hl, hq⟩ := pick_all Q n fun i hi => h i (by omega)
    obtain ⟨a, ha⟩ := h n (by omega)
    refine ⟨l ++ [a], by simp [hl], fun i hi => ?_⟩
    by_cases hin : i < l.length
    · rw [List.getElem_append_left hin]; exact hq i hin
    · have : i = n := by simp at hi; omega
      subst this
      rw [List.getElem_append_right (by omega)]
      simpa using ha
theorem add_add (a : Addr) (i j : Nat) : (a.add i).add j = a.add (i + j) := by
  by_cases hi : i = 0
  · subst hi; simp [Addr.add]
  · by_cases hj : j = 0
    · subst hj; simp [Addr.add]
    · simp [Addr.add, hi, hj, Nat.add_assoc]
/-- A script. -/
theorem ops_in (h : DataW.trod enc Try.prog W 0 (fun _ => true) true fuel 22 cs = some x) : ∃ v l, cs = [v] ∧ OpsR W v l := by
  rcases DataW.trod_slice Try.underlying22 h with ⟨rfl, _⟩ | ⟨a, len, cap, elems, rest, n, rfl, rfl, rfl, _, hl, hm, hlen, hel, _, _⟩
  · exact ⟨_, [], rfl, ⟨none, 0, rfl, Nat.le_refl _, Nat.zero_le _, fun h => by simp at h⟩, (fun _ h => by cases h)⟩
  · have e4 : Try.prog.cellsOf 56 = 44 := by kernel_rfl
    rw [e4] at hel
    obtain ⟨l, hll, hq⟩ := pick_all (fun i (e : Op3) => (B64 e.1 ∧ B64 e.2.1 ∧ U64 e.2.2) ∧ W.cell? (a.add (i * 44)) = some (.int .i64 e.1) ∧ W.cell? (a.add (i * 44 + 1)) = some (.int .i64 e.2.1) ∧ W.cell? (a.add (i * 44 + 2)) = some (.int .u64 (e.2.2 : Int))) len fun i hi => by
      have hE := hel i hi
      have hi' : i < elems.length := by omega
      rw [List.getElem?_eq_getElem hi', Option.bind_eq_some_iff] at hE
      obtain ⟨c1, hc1, hy⟩ := hE
      obtain ⟨e, q0, q1, q2, hok⟩ := op_in Try.underlying56 Try.underlying3 Try.underlying28 (by kernel_rfl) (by kernel_rfl) (by rw [e4]; omega) ⟨rfl, rfl⟩ ⟨rfl, rfl⟩ ⟨rfl, rfl⟩ hy
      obtain ⟨_, _, hcell⟩ := World.cells?_some hc1
      refine ⟨e, hok, ?_, ?_, ?_⟩
      · have := hcell 0 (by omega)
        rw [add_add, Nat.add_zero] at this
        rw [this]; exact q0
      · rw [← add_add, hcell 1 (by omega)]; exact q1
      · rw [← add_add, hcell 2 (by omega)]; exact q2
    refine ⟨_, l, rfl, ⟨some a, cap, by rw [hll], by omega, hm, fun hp => ?_⟩, fun e he => ?_⟩
    · obtain ⟨b, o, sp⟩ := a
      have hs : sp = none := by
        have := World.cell?_spot (hq 0 hp).2.1
        simpa [Addr.add] using this
      subst hs
      refine ⟨b, o, rfl, fun i hi => ?_⟩
      obtain ⟨_, q0, q1, q2⟩ := hq i hi
      rw [Addr.add_lit] at q0 q1 q2
      exact ⟨q0, by rw [Nat.add_assoc]; exact q1, by rw [Nat.add_assoc]; exact q2⟩
    · obtain ⟨i, hi, rfl⟩ := List.getElem_of_mem he
      exact (hq i hi).1
end
end Go.Proofs.Ytnkllgpibmofiaa
