/- A timeline as it is said, and as it lies in memory. No walk stands here. -/
import Derived.Test.YtgbmigfamefenaaLMath
import Derived.Test.YtgbmigfamefenaaApp
import Derived.Maps.OwnSet
import Derived.Maps.RangeWalk
import Derived.DeepKeys4
namespace Go.Proofs.Ytgbmigfamefenaa
open Go.RowKit Go.Maps
set_option linter.unusedVariables false

/-- The numbers of a key are int64s. -/
structure B3 (k : K3) : Prop where
  a1 : -9223372036854775808 ≤ k.1
  a2 : k.1 ≤ 9223372036854775807
  b1 : -9223372036854775808 ≤ k.2.1
  b2 : k.2.1 ≤ 9223372036854775807
  c1 : -9223372036854775808 ≤ k.2.2
  c2 : k.2.2 ≤ 9223372036854775807
def kc (k : K3) : List Value := [.int .i64 k.1, .int .i64 k.2.1, .int .i64 k.2.2]
def kv (k : K3) : Value := .agg #[.int .i64 k.1, .int .i64 k.2.1, .int .i64 k.2.2]
def kl (k : K3) : Lit := .string (keyBytes [.int .i64 k.1, .int .i64 k.2.1, .int .i64 k.2.2])
theorem laidO : laidOutB Try.prog = true := by kernel_rfl
theorem rowK : (55 : TypeId) < Try.prog.types.size := of_decide_eq_true (by kernel_rfl)
theorem wideK : (match Try.prog.underlying 55 with | some (.array _ _) | some (.struct _) => true | _ => false) = true := by rw [Try.underlying55]
set_option maxRecDepth 100000 in
theorem keyT : Try.prog.keyTypeAt 3 55 = true := by kernel_rfl
set_option maxRecDepth 100000 in
theorem law : Keyed Try.prog 55 := Keyed.of_law (deep_law_laid laidO (m := 3) (by omega) rowK keyT wideK)
theorem wf64 {z : Int} (h1 : -9223372036854775808 ≤ z) (h2 : z ≤ 9223372036854775807) : (Lit.int .i64 z).wf = true := by
  have e1 : IntKind.i64.min = -9223372036854775808 := by decide
  have e2 : IntKind.i64.max = 9223372036854775807 := by decide
  simp only [Lit.wf, e1, e2, Bool.and_eq_true, decide_eq_true_eq]
  exact ⟨h1, h2⟩
theorem cellsK : Try.prog.cellsOf 55 = 3 := by kernel_rfl
theorem cellsS : Try.prog.cellsOf 24 = 2 := by kernel_rfl
theorem cellsI : Try.prog.cellsOf 3 = 1 := by kernel_rfl
theorem cellsJ : Try.prog.cellsOf 2 = 1 := by kernel_rfl
theorem lits_int (d : Nat) {z : Int} (h : (Lit.int .i64 z).wf = true) : Try.prog.keyLits (d + 1) 3 [.int .i64 z] = some [.int .i64 z] := by
  simp [Program.keyLits, Try.underlying3, h]
theorem lits_int64 (d : Nat) {z : Int} (h : (Lit.int .i64 z).wf = true) : Try.prog.keyLits (d + 1) 2 [.int .i64 z] = some [.int .i64 z] := by
  simp [Program.keyLits, Try.underlying2, h]
theorem lits_span (d : Nat) {a b : Int} (ha : (Lit.int .i64 a).wf = true) (hb : (Lit.int .i64 b).wf = true) : Try.prog.keyLits (d + 2) 24 [.int .i64 a, .int .i64 b] = some [.int .i64 a, .int .i64 b] := by
  simp [Program.keyLits, Try.underlying24, Try.underlying2, cellsS, cellsJ, ha, hb]
theorem lits_key (d : Nat) {a b c : Int} (ha : (Lit.int .i64 a).wf = true) (hb : (Lit.int .i64 b).wf = true) (hc : (Lit.int .i64 c).wf = true) : Try.prog.keyLits (d + 3) 55 [.int .i64 a, .int .i64 b, .int .i64 c] = some [.int .i64 a, .int .i64 b, .int .i64 c] := by
  have h1 := lits_span d ha hb
  have h2 := lits_int (d + 1) hc
  rw [Program.keyLits.eq_def]
  simp only [Try.underlying55]
  simp [cellsK, cellsS, cellsI, h1, h2]
set_option maxRecDepth 100000 in
theorem keyTy : Try.prog.keyType 55 = true := by kernel_rfl
theorem formK (a b c : Value) : (Value.agg #[a, b, c]).formed Try.prog 55 = true := by
  simp [Value.formed, Try.underlying55, cellsK]
theorem key_mk (k : K3) (h : B3 k) : keyOf Try.prog 55 (kv k) = some (kl k) := by
  have hs : 2 ≤ Try.prog.types.size := of_decide_eq_true (by kernel_rfl)
  obtain ⟨d, hd⟩ := Nat.exists_eq_add_of_le hs
  have e : Try.prog.types.size + 1 = d + 3 := by omega
  unfold keyOf kv kl
  rw [Try.underlying55]
  simp only [keyTy, formK, Bool.and_self, if_true, Value.cells, e]
  rw [lits_key d (wf64 h.a1 h.a2) (wf64 h.b1 h.b2) (wf64 h.c1 h.c2)]
  rfl
end Go.Proofs.Ytgbmigfamefenaa
