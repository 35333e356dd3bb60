/- For every message WireBack returns true: where the program's Put answers bytes, its Get reads them without an error as a message that is the same, and where Put refuses, it answers ErrArg and no bytes; the argument is left as it was. No condition besides. -/
import Derived.Test.YtpdlioidiobbbaaRows
import Derived.Test.YtpdlioidiobbbaaBck
import Derived.Test.YtpdlioidiobbbaaMis
import Derived.WalkKit
import Derived.ProofKit
import Derived.OpenShut
import Derived.ShutString
import Derived.ChangeOld
import Derived.Below
import Derived.SizedLaws
namespace Go.Proofs.Ytpdlioidiobbbaa.wireBack
open Go.ChangeShapes Go.WideShapes Go.ChangeAt Go.RowKit
set_option linter.unusedVariables false

theorem own : ownKnob Try.prog.godebug = none := by kernel_rfl
theorem laidOut : laidOutB Try.prog = true := by kernel_rfl

set_option maxRecDepth 100000 in
theorem lifted (os : Os) (started : os.Started) (H : Type) (enc : TypeId × Value → H) :
    ReturnsInHanded {} Try.checked os 5 .any (Rows.wireBackSpec.pre6 enc Try.prog Try.f5 Rows.wireBackRow.domain false) (Rows.wireBackSpec.post enc Try.prog Try.f5 false true false false) := by
  refine returnsInHanded_of_change_sized (C := Try.checked) own started (by kernel_rfl) Try.func5
    (ChangeSpec.witness6 (enc := enc) (C := Try.checked) false ⟨#[], #[.agg (List.toArray ((.int .i64 0) :: (.int .i64 0) :: (.int .i64 0) :: (.int .u64 0) :: (.int .u64 0) :: (.int .u64 0) :: (.int .i64 0) :: (.int .u64 0) :: (.int .i64 0) :: (.int .i64 0) :: (.slice none 0 0) :: (.slice none 0 0) :: (.int .i64 0) :: (.int .i64 0) :: (.int .i64 0) :: (.int .i64 0) :: (.slice none 0 0) :: (.int .i64 0) :: (.int .i64 0) :: (.slice none 0 0) :: (.int .i64 0) :: (.slice none 0 0) :: (.slice none 0 0) :: (.int .i64 0) :: (.int .i64 0) :: (.int .i64 0) :: (.int .i64 0) :: (.int .i64 0) :: (.int .i64 0) :: (.int .i64 0) :: (.int .i64 0) :: (.int .i64 0) :: (.bool false) :: (.int .i64 0) :: (.int .i64 0) :: (.int .i64 0) :: (.int .i64 0) :: (.int .i64 0) :: (.int .i64 0) :: (.slice none 0 0) :: (.slice none 0 0) :: []))], []⟩ 8 (by kernel_rfl) (by kernel_rfl) (by kernel_rfl) (by kernel_rfl)) ?_
  intro W base args ds gs before hval0 hW hcnd hsz0 _
  have hsz : (DataW.weightsEach Try.prog (Try.f5.params.toList ++ Rows.wireBackSpec.plain.varTypes Try.prog) (ds ++ gs)).all (· ≤ reachBytes) = true := hsz0
  clear hsz0
  have hval : ∀ (j : Nat) t v, Try.f5.params[j]? = some t → args[j]? = some v → Value.okWide Try.prog W .any base t v := hval0
  have hW' := hW
  obtain ⟨p, q, hA0, hV, rfl, hfz, hnd⟩ := hW
  have hA : DataW.TrodAll enc Try.prog W 0 (fun _ => true) true Try.f5.params.toList args.toList ds p := hA0
  rw [Try.params5] at hA hval hsz
  obtain ⟨v0, vs0, d0, ds0, p0, q0, hargs, rfl, rfl, h0, r0⟩ := trodAll_cons hA
  obtain ⟨rfl, rfl, rfl⟩ := trodAll_nil r0
  obtain rfl : args = #[v0] := by cases args; simp_all
  obtain ⟨rfl, rfl⟩ := trodVars_none hV
  have k0 := h0
  have lt0 : ∀ x ∈ p0, x.block < W.heap.size := by obtain ⟨m, hm⟩ := k0; exact DataW.trod_lt m _ _ _ hm
  have wt0 : Wt 46 d0 := fun n hn => by
    have := List.all_eq_true.1 hsz n (DataW.weights_mem_each (j := 0) rfl rfl n hn)
    simpa using this
  obtain ⟨cs0, rfl, _⟩ := okWide_struct Try.underlying46 (hval 0 46 v0 rfl rfl)
  obtain ⟨m, e0, hm⟩ : ∃ m : Mm, cs0 = mcells m ∧ m.Ok W := by
    obtain ⟨fuel, hf⟩ := h0
    obtain ⟨m, hc, hok, _⟩ := msg_in hf wt0
    refine ⟨m, ?_, hok⟩
    have hc' : cs0.toList = ((.int .i64 m.kind) :: (.int .i64 m.frm) :: (.int .i64 m.to) :: (.int .u64 (m.id : Nat)) :: (.int .u64 (m.ask : Nat)) :: (.int .u64 (m.off : Nat)) :: (.int .i64 m.term) :: (.int .u64 (m.cnt : Nat)) :: (.int .i64 m.code) :: (.int .i64 m.ft) :: (m.fdv) :: (m.fmv) :: (.int .i64 m.q.F) :: (.int .i64 m.q.T) :: (.int .i64 m.q.t.k) :: (.int .i64 m.q.t.d) :: (m.q.t.tv) :: (.int .i64 m.q.t.lo) :: (.int .i64 m.q.t.hi) :: (m.q.t.kv) :: (.int .i64 m.q.g) :: (m.q.sv) :: (m.q.av) :: (.int .i64 m.q.G) :: (.int .i64 m.q.R) :: (.int .i64 m.ps.F) :: (.int .i64 m.ps.T) :: (.int .i64 m.ps.V) :: (.int .i64 m.ps.P) :: (.int .i64 m.ps.C) :: (.int .i64 m.pF) :: (.int .i64 m.pT) :: (.bool m.od) :: (.int .i64 m.os.F) :: (.int .i64 m.os.T) :: (.int .i64 m.os.V) :: (.int .i64 m.os.P) :: (.int .i64 m.os.C) :: (.int .i64 m.on) :: (m.sv) :: (m.gv) :: []) := hc
    rw [← Array.toArray_toList (xs := cs0), hc']
    rfl
  subst e0
  clear hA0 hval0
  have hwalk := back_walk W m hm
  refine hwalk.mono fun e W' ⟨he, bel⟩ => ?_
  subst he
  exact ⟨_, rfl, _, _, _, [], _, [], hW', trodAll_mk1 (shut_bool Try.underlying4 _), (trodAll_cons_mk (Below.trod laidOut (by kernel_rfl) (of_decide_eq_true (by kernel_rfl)) k0 bel lt0) trodAll_mk0), rfl, bel.frame _, fun h => by cases h⟩
theorem over : Rows.wireBackRow.holds Try.pinned (OpenSpec.ofChange Rows.wireBackSpec) :=
  OpenClaim.holds_of_wide 5 Try.f5 rfl rfl rfl rfl rfl rfl rfl ⟨rfl, rfl, rfl, rfl, rfl⟩ rfl rfl rfl rfl rfl (by kernel_rfl) Try.func5 (by kernel_rfl)
    (of_decide_eq_true (by kernel_rfl)) (by unfold Func.isWrapper; first | (rw [if_pos (by decide +kernel)]; kernel_rfl) | (rw [if_neg (by decide +kernel)]; exact ⟨rfl, rfl⟩))
    (fun os started H enc _ => lifted os started H enc)

end Go.Proofs.Ytpdlioidiobbbaa.wireBack
namespace Go.Proofs.Ytpdlioidiobbbaa
theorem wireBack_holds : Rows.WireBackSaid := wireBack.over
end Go.Proofs.Ytpdlioidiobbbaa
