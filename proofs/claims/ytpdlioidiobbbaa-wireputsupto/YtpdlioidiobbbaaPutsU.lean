/- For every message of at most 1048576 values and letters WirePuts returns true: the program's Put answers the bytes that the reference's Put answers, or both refuse it with the same number; the argument is left as it was. Condition: the bound on the message's bulk. -/
import Derived.Test.YtpdlioidiobbbaaRows
import Derived.Test.YtpdlioidiobbbaaPtw
import Derived.Test.YtpdlioidiobbbaaMin
import Derived.WalkKit
import Derived.ProofKit
import Derived.OpenShut
import Derived.ShutString
import Derived.ChangeOld
import Derived.Below
import Derived.SizedLaws
import Derived.JoinedCond
import Derived.Deep.CondSized
namespace Go.Proofs.Ytpdlioidiobbbaa.wirePuts
open Go.ChangeShapes Go.WideShapes Go.ChangeAt Go.RowKit
set_option linter.unusedVariables false

theorem own : ownKnob Try.prog.godebug = none := by kernel_rfl
theorem laidOut : laidOutB Try.prog = true := by kernel_rfl

set_option maxRecDepth 100000 in
theorem lifted (os : Os) (started : os.Started) (H : Type) (enc : TypeId × Value → H) (F : Stop.Interp) :
    ReturnsInHanded {} Try.checked os 3 .any ((Rows.OpenSpec.upto Rows.wirePutsSpec).pre6 enc Try.prog Try.f3 Rows.wirePutsUptoRow.domain false) (((Rows.OpenSpec.upto Rows.wirePutsSpec).at F).post enc Try.prog Try.f3 false true false false) := by
  refine returnsInHanded_of_cond_sized (C := Try.checked) (s := (Rows.OpenSpec.upto Rows.wirePutsSpec)) (k := Rows.uptoSmall) rfl own started (by kernel_rfl) Try.func3
    (OpenSpec.witness (enc := enc) (C := Try.checked) (s := (Rows.OpenSpec.upto Rows.wirePutsSpec)) (k := Rows.uptoSmall) rfl false ⟨#[], #[.agg (List.toArray ((.int .i64 0) :: (.int .i64 0) :: (.int .i64 0) :: (.int .u64 0) :: (.int .u64 0) :: (.int .u64 0) :: (.int .i64 0) :: (.int .u64 0) :: (.int .i64 0) :: (.int .i64 0) :: (.slice none 0 0) :: (.slice none 0 0) :: (.int .i64 0) :: (.int .i64 0) :: (.int .i64 0) :: (.int .i64 0) :: (.slice none 0 0) :: (.int .i64 0) :: (.int .i64 0) :: (.slice none 0 0) :: (.int .i64 0) :: (.slice none 0 0) :: (.slice none 0 0) :: (.int .i64 0) :: (.int .i64 0) :: (.int .i64 0) :: (.int .i64 0) :: (.int .i64 0) :: (.int .i64 0) :: (.int .i64 0) :: (.int .i64 0) :: (.int .i64 0) :: (.bool false) :: (.int .i64 0) :: (.int .i64 0) :: (.int .i64 0) :: (.int .i64 0) :: (.int .i64 0) :: (.int .i64 0) :: (.slice none 0 0) :: (.slice none 0 0) :: []))], []⟩ 8 (by kernel_rfl) (by kernel_rfl) (by kernel_rfl)
      (x := ([.agg [.lit (.int .i64 0), .lit (.int .i64 0), .lit (.int .i64 0), .lit (.int .u64 0), .lit (.int .u64 0), .lit (.int .u64 0), .lit (.int .i64 0), .lit (.int .u64 0), .lit (.int .i64 0), .agg [.lit (.int .i64 0), .nil, .nil], .agg [.agg [.lit (.int .i64 0), .lit (.int .i64 0)], .agg [.lit (.int .i64 0), .lit (.int .i64 0), .nil, .lit (.int .i64 0), .lit (.int .i64 0), .nil], .lit (.int .i64 0), .nil, .nil, .lit (.int .i64 0), .lit (.int .i64 0)], .agg [.agg [.agg [.lit (.int .i64 0), .lit (.int .i64 0)], .lit (.int .i64 0), .lit (.int .i64 0), .lit (.int .i64 0)], .agg [.lit (.int .i64 0), .lit (.int .i64 0)]], .agg [.lit (.bool false), .agg [.agg [.lit (.int .i64 0), .lit (.int .i64 0)], .lit (.int .i64 0), .lit (.int .i64 0), .lit (.int .i64 0)], .lit (.int .i64 0)], .nil, .nil]], [], [])) (by kernel_rfl) rfl (by kernel_rfl)) ?_
  intro W base args ds gs before hval0 hW hcnd hk hsz0 _
  clear hsz0
  have hval : ∀ (j : Nat) t v, Try.f3.params[j]? = some t → args[j]? = some v → Value.okWide Try.prog W .any base t v := hval0
  have hW' := hW
  obtain ⟨p, q, hA0, hV, rfl, hfz, hnd⟩ := hW
  have hA : DataW.TrodAll enc Try.prog W 0 (fun _ => true) true Try.f3.params.toList args.toList ds p := hA0
  rw [Try.params3] at hA hval
  obtain ⟨v0, vs0, d0, ds0, p0, q0, hargs, rfl, rfl, h0, r0⟩ := trodAll_cons hA
  obtain ⟨rfl, rfl, rfl⟩ := trodAll_nil r0
  obtain rfl : args = #[v0] := by cases args; simp_all
  obtain ⟨rfl, rfl⟩ := trodVars_none hV
  have hkb : Rows.uptoBulkAll ([d0] ++ []) ≤ 1048576 := of_decide_eq_true hk
  simp only [List.append_nil, Rows.uptoBulkAll] at hkb
  have k0 := h0
  have lt0 : ∀ x ∈ p0, x.block < W.heap.size := by obtain ⟨m, hm⟩ := k0; exact DataW.trod_lt m _ _ _ hm
  obtain ⟨cs0, rfl, _⟩ := okWide_struct Try.underlying46 (hval 0 46 v0 rfl rfl)
  obtain ⟨m, e0, hm, hle⟩ : ∃ m : Mm, cs0 = List.toArray ((.int .i64 m.kind) :: (.int .i64 m.frm) :: (.int .i64 m.to) :: (.int .u64 (m.id : Nat)) :: (.int .u64 (m.ask : Nat)) :: (.int .u64 (m.off : Nat)) :: (.int .i64 m.term) :: (.int .u64 (m.cnt : Nat)) :: (.int .i64 m.code) :: (.int .i64 m.ft) :: (m.fdv) :: (m.fmv) :: (.int .i64 m.q.F) :: (.int .i64 m.q.T) :: (.int .i64 m.q.t.k) :: (.int .i64 m.q.t.d) :: (m.q.t.tv) :: (.int .i64 m.q.t.lo) :: (.int .i64 m.q.t.hi) :: (m.q.t.kv) :: (.int .i64 m.q.g) :: (m.q.sv) :: (m.q.av) :: (.int .i64 m.q.G) :: (.int .i64 m.q.R) :: (.int .i64 m.ps.F) :: (.int .i64 m.ps.T) :: (.int .i64 m.ps.V) :: (.int .i64 m.ps.P) :: (.int .i64 m.ps.C) :: (.int .i64 m.pF) :: (.int .i64 m.pT) :: (.bool m.od) :: (.int .i64 m.os.F) :: (.int .i64 m.os.T) :: (.int .i64 m.os.V) :: (.int .i64 m.os.P) :: (.int .i64 m.os.C) :: (.int .i64 m.on) :: (m.sv) :: (m.gv) :: []) ∧ m.Ok W ∧ (r_msg m).length ≤ 1073741824 := by
    obtain ⟨fuel, hf⟩ := h0
    obtain ⟨m, hc, hok, hl⟩ := msg_in hf (by simpa using hkb)
    refine ⟨m, ?_, hok, ?_⟩
    · have hc' : cs0.toList = ((.int .i64 m.kind) :: (.int .i64 m.frm) :: (.int .i64 m.to) :: (.int .u64 (m.id : Nat)) :: (.int .u64 (m.ask : Nat)) :: (.int .u64 (m.off : Nat)) :: (.int .i64 m.term) :: (.int .u64 (m.cnt : Nat)) :: (.int .i64 m.code) :: (.int .i64 m.ft) :: (m.fdv) :: (m.fmv) :: (.int .i64 m.q.F) :: (.int .i64 m.q.T) :: (.int .i64 m.q.t.k) :: (.int .i64 m.q.t.d) :: (m.q.t.tv) :: (.int .i64 m.q.t.lo) :: (.int .i64 m.q.t.hi) :: (m.q.t.kv) :: (.int .i64 m.q.g) :: (m.q.sv) :: (m.q.av) :: (.int .i64 m.q.G) :: (.int .i64 m.q.R) :: (.int .i64 m.ps.F) :: (.int .i64 m.ps.T) :: (.int .i64 m.ps.V) :: (.int .i64 m.ps.P) :: (.int .i64 m.ps.C) :: (.int .i64 m.pF) :: (.int .i64 m.pT) :: (.bool m.od) :: (.int .i64 m.os.F) :: (.int .i64 m.os.T) :: (.int .i64 m.os.V) :: (.int .i64 m.os.P) :: (.int .i64 m.os.C) :: (.int .i64 m.on) :: (m.sv) :: (m.gv) :: []) := hc
      rw [← Array.toArray_toList (xs := cs0), hc']
    · unfold Le at hl
      have hb : Rows.uptoBulk d0 ≤ 1048576 := by simpa using hkb
      have h2 : (r_msg m).length ≤ 10 * Rows.uptoBulk d0 := hl
      exact Nat.le_trans h2 (by omega)
  subst e0
  clear hA0 hval0
  have hwalk := puts_walk W m hm hle
  refine hwalk.mono fun e W' ⟨he, bel⟩ => ?_
  subst he
  exact ⟨_, rfl, _, _, _, [], _, [], hW', trodAll_mk1 (shut_bool Try.underlying4 _), (trodAll_cons_mk (Below.trod laidOut (by kernel_rfl) (of_decide_eq_true (by kernel_rfl)) k0 bel lt0) trodAll_mk0), rfl, bel.frame _, fun h => by cases h⟩
theorem over : Rows.wirePutsUptoRow.holds Try.pinned (Rows.OpenSpec.upto Rows.wirePutsSpec) :=
  OpenClaim.holds_of_cond 3 Try.f3 rfl rfl rfl rfl rfl rfl rfl ⟨rfl, rfl, rfl, rfl, rfl⟩ rfl rfl rfl rfl rfl (by kernel_rfl) Try.func3 (by kernel_rfl)
    (of_decide_eq_true (by kernel_rfl)) (by unfold Func.isWrapper; first | (rw [if_pos (by decide +kernel)]; kernel_rfl) | (rw [if_neg (by decide +kernel)]; exact ⟨rfl, rfl⟩))
    (fun os started H enc _ F => lifted os started H enc F)

end Go.Proofs.Ytpdlioidiobbbaa.wirePuts
namespace Go.Proofs.Ytpdlioidiobbbaa
theorem wirePuts_holds : Rows.WirePutsUptoSaid := wirePuts.over
end Go.Proofs.Ytpdlioidiobbbaa
