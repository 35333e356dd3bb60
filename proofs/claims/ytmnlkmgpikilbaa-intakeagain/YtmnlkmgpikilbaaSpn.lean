/- Spans as keys of a map; lists of facts as what it holds. No walk stands here. -/
import Derived.Test.YtmnlkmgpikilbaaApp
import Derived.Maps.OwnSet
import Derived.Maps.RangeWalk
import Derived.DeepKeys4
namespace Go.Proofs.Ytmnlkmgpikilbaa
open Go.RowKit Go.Maps
set_option linter.unusedVariables false

abbrev K2 := Int × Int
structure B2 (k : K2) : Prop where
  a1 : -9223372036854775808 ≤ k.1
  a2 : k.1 ≤ 9223372036854775807
  b1 : -9223372036854775808 ≤ k.2
  b2 : k.2 ≤ 9223372036854775807
def kc (k : K2) : List Value := [.int .i64 k.1, .int .i64 k.2]
def kv (k : K2) : Value := .agg #[.int .i64 k.1, .int .i64 k.2]
def kl (k : K2) : Lit := .string (keyBytes [.int .i64 k.1, .int .i64 k.2])
theorem laidO : laidOutB Try.prog = true := by kernel_rfl
theorem rowK : (67 : TypeId) < Try.prog.types.size := of_decide_eq_true (by kernel_rfl)
theorem wideK : (match Try.prog.underlying 67 with | some (.array _ _) | some (.struct _) => true | _ => false) = true := by rw [Try.underlying67]
set_option maxRecDepth 100000 in
theorem keyT : Try.prog.keyTypeAt 2 67 = true := by kernel_rfl
set_option maxRecDepth 100000 in
theorem law : Keyed Try.prog 67 := Keyed.of_law (deep_law_laid laidO (m := 2) (by omega) rowK keyT wideK)
theorem wf64 {z : Int} (h1 : -9223372036854775808 ≤ z) (h2 : z ≤ 9223372036854775807) : (Lit.int .i64 z).wf = true := by
  have e1 : IntKind.i64.min = -9223372036854775808 := by decide
  have e2 : IntKind.i64.max = 9223372036854775807 := by decide
  simp only [Lit.wf, e1, e2, Bool.and_eq_true, decide_eq_true_eq]
  exact ⟨h1, h2⟩
theorem wf_inv {z : Int} (h : (Lit.int .i64 z).wf = true) : -9223372036854775808 ≤ z ∧ z ≤ 9223372036854775807 := by
  have e1 : IntKind.i64.min = -9223372036854775808 := by decide
  have e2 : IntKind.i64.max = 9223372036854775807 := by decide
  simp only [Lit.wf, e1, e2, Bool.and_eq_true, decide_eq_true_eq] at h
  exact h
theorem cellsS : Try.prog.cellsOf 67 = 2 := by kernel_rfl
theorem cellsJ : Try.prog.cellsOf 2 = 1 := by kernel_rfl
theorem lits_int64 (d : Nat) {z : Int} (h : (Lit.int .i64 z).wf = true) : Try.prog.keyLits (d + 1) 2 [.int .i64 z] = some [.int .i64 z] := by
  simp [Program.keyLits, Try.underlying2, h]
theorem lits_span (d : Nat) {a b : Int} (ha : (Lit.int .i64 a).wf = true) (hb : (Lit.int .i64 b).wf = true) : Try.prog.keyLits (d + 2) 67 [.int .i64 a, .int .i64 b] = some [.int .i64 a, .int .i64 b] := by
  simp [Program.keyLits, Try.underlying67, Try.underlying2, cellsS, cellsJ, ha, hb]
set_option maxRecDepth 100000 in
theorem keyTy : Try.prog.keyType 67 = true := by kernel_rfl
theorem formK (a b : Value) : (Value.agg #[a, b]).formed Try.prog 67 = true := by
  simp [Value.formed, Try.underlying67, cellsS]
theorem key_mk (k : K2) (h : B2 k) : keyOf Try.prog 67 (kv k) = some (kl k) := by
  have hs : 1 ≤ Try.prog.types.size := of_decide_eq_true (by kernel_rfl)
  obtain ⟨d, hd⟩ := Nat.exists_eq_add_of_le hs
  have e : Try.prog.types.size + 1 = d + 2 := by omega
  unfold keyOf kv kl
  rw [Try.underlying67]
  simp only [keyTy, formK, Bool.and_self, if_true, Value.cells, e]
  rw [lits_span d (wf64 h.a1 h.a2) (wf64 h.b1 h.b2)]
  rfl
set_option maxRecDepth 100000 in
theorem key_inv (key : Value) (l : Lit) (h : keyOf Try.prog 67 key = some l) : ∃ x : K2, key = .agg #[.int .i64 x.1, .int .i64 x.2] ∧ B2 x := by
  have hs : 1 ≤ Try.prog.types.size := of_decide_eq_true (by kernel_rfl)
  obtain ⟨d, hd⟩ := Nat.exists_eq_add_of_le hs
  have e : Try.prog.types.size + 1 = d + 2 := by omega
  unfold keyOf at h
  rw [Try.underlying67] at h
  simp only at h
  split at h
  · rename_i hc
    rw [Bool.and_eq_true] at hc
    have hf := hc.2
    obtain ⟨ls, hls, -⟩ := Option.map_eq_some_iff.1 h
    rw [e] at hls
    cases key with
    | agg cs =>
      simp only [Value.formed, Try.underlying67, cellsS, beq_iff_eq] at hf
      obtain ⟨a, b, hcs⟩ : ∃ a b, cs = #[a, b] := by
        obtain ⟨l⟩ := cs
        simp only [List.size_toArray] at hf
        match l, hf with
        | [a, b], _ => exact ⟨a, b, rfl⟩
      subst hcs
      simp only [Value.cells] at hls
      rw [Program.keyLits.eq_def] at hls
      simp only [Try.underlying67] at hls
      simp [cellsS, cellsJ] at hls
      cases h3 : Try.prog.keyLits (d + 1) 2 [a] with
      | none => rw [h3] at hls; simp at hls
      | some s3 =>
        cases h4 : Try.prog.keyLits (d + 1) 2 [b] with
        | none => rw [h3, h4] at hls; simp at hls
        | some s4 =>
          have inv : ∀ {v : Value} {s : List Lit} {n : Nat}, Try.prog.keyLits (n + 1) 2 [v] = some s → ∃ z, v = .int .i64 z ∧ (Lit.int .i64 z).wf = true := fun {v s n} h => by
            cases v <;> simp [Program.keyLits, Try.underlying2] at h
            obtain ⟨⟨rfl, hw⟩, -⟩ := h
            exact ⟨_, rfl, hw⟩
          obtain ⟨x, rfl, wx⟩ := inv h3
          obtain ⟨y, rfl, wy⟩ := inv h4
          exact ⟨(x, y), rfl, (wf_inv wx).1, (wf_inv wx).2, (wf_inv wy).1, (wf_inv wy).2⟩
    | _ => simp [Value.formed, Try.underlying67] at hf
  · cases h
theorem kv_inj {x y : K2} (h : Value.agg #[.int .i64 x.1, .int .i64 x.2] = .agg #[.int .i64 y.1, .int .i64 y.2]) : x = y := by
  obtain ⟨a, b⟩ := x
  obtain ⟨c, d⟩ := y
  simp at h
  rw [h.1, h.2]
theorem key_b2 {x : K2} {l : Lit} (h : keyOf Try.prog 67 (.agg #[.int .i64 x.1, .int .i64 x.2]) = some l) : B2 x ∧ l = kl x := by
  obtain ⟨y, h1, h2⟩ := key_inv _ _ h
  have e : x = y := kv_inj h1
  subst e
  refine ⟨h2, ?_⟩
  have h3 := key_mk x h2
  unfold kv at h3
  rw [h] at h3
  exact Option.some.inj h3
theorem kl_inj {a b : K2} (ha : B2 a) (hb : B2 b) (h : kl a = kl b) : a = b := kv_inj (law.inj (key_mk a ha) (by rw [h]; exact key_mk b hb))
theorem kl_key (a : K2) (ha : B2 a) : WideAt.IsKeyLit (kl a) := law.key (key_mk a ha)
/-- How a list reads as an element. -/
def sel (v : Value) : Option (DataW Unit × List MemPlace) :=
  match v with
  | .slice none n m => some (.agg [.nil, .lit (.int .i64 (n : Int)), .lit (.int .i64 (m : Int))], [])
  | .slice (some ⟨g, 0, none⟩) n m => some (.agg [.lit (.int .i64 (g : Int)), .lit (.int .i64 (n : Int)), .lit (.int .i64 (m : Int))], [])
  | _ => none
end Go.Proofs.Ytmnlkmgpikilbaa
