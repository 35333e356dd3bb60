/- errors.Is of errors that wrap others, however deep. -/
import Derived.Test.YtiiihjihegilnaaGreatDoorQas
import Derived.Test.YtiiihjihegilnaaGreatDoorQap
namespace Go.Proofs.YtiiihjihegilnaaGreatDoor
open Go.RowKit

/-- An error, so many times wrapped. -/
def chn (v : Value) : Nat → Value
  | 0 => v
  | n + 1 => .iface 52 (.agg #[chn v n])
/-- What is unwrapped of a *Wrong that is wrapped: by how many steps it is api.ErrQuery. -/
def chE (e : Addr) : Nat → Value
  | 0 => .iface 40 (.int .i64 80)
  | n + 1 => chn (.iface 42 (.pointer (some e))) n
theorem oNoIs (v : Value) (xT : TypeId) (w : World) : (Instr.typeAssert (.iface 52 v) xT 96 true).run Tryz.prog w = .ok (.tuple #[.nilIface, .bool false]) w := run_typeAssert_lacksB Tryz.underlying96 (by kernel_rfl) (by kernel_rfl) v xT w
theorem oHasUnwrap (v : Value) (xT : TypeId) (w : World) : (Instr.typeAssert (.iface 52 v) xT 99 true).run Tryz.prog w = .ok (.tuple #[.iface 52 v, .bool true]) w := run_typeAssert_hasB Tryz.underlying99 (by kernel_rfl) v xT w
theorem oMethodUnwrap (v : Value) (w : World) : (Go.method 291 52 v "Unwrap").run Tryz.prog w = .ok (127, v) w := by kernel_rfl
theorem nNoIs (v : Value) (xT : TypeId) (w : World) : (Instr.typeAssert (.iface 40 v) xT 96 true).run Tryz.prog w = .ok (.tuple #[.nilIface, .bool false]) w := run_typeAssert_lacksB Tryz.underlying96 (by kernel_rfl) (by kernel_rfl) v xT w
theorem nNoUnwrap (v : Value) (xT : TypeId) (w : World) : (Instr.typeAssert (.iface 40 v) xT 99 true).run Tryz.prog w = .ok (.tuple #[.nilIface, .bool false]) w := run_typeAssert_lacksB Tryz.underlying99 (by kernel_rfl) (by kernel_rfl) v xT w
theorem nNoUnwraps (v : Value) (xT : TypeId) (w : World) : (Instr.typeAssert (.iface 40 v) xT 100 true).run Tryz.prog w = .ok (.tuple #[.nilIface, .bool false]) w := run_typeAssert_lacksB Tryz.underlying100 (by kernel_rfl) (by kernel_rfl) v xT w
theorem erEq90 (w : World) : (binOp .eql 36 (.iface 40 (.int .i64 80)) (.iface 40 (.int .i64 90))).run Tryz.prog w = .ok (.bool false) w := by kernel_rfl
/-- A value that is an error, and not nil. -/
def isI (v : Value) : Prop := ∃ t x, v = .iface t x
theorem chn_is {v : Value} (h : isI v) : ∀ n, isI (chn v n)
  | 0 => h
  | _ + 1 => ⟨_, _, rfl⟩
theorem chE_is (e : Addr) : ∀ n, isI (chE e n)
  | 0 => ⟨_, _, rfl⟩
  | n + 1 => chn_is ⟨_, _, rfl⟩ n
theorem unwrap_outer (v : Value) (w : World) :
    Calls Tryz.prog 127 #[.agg #[v]] w fun ev w' => ev = .returned v ∧ w' = w.alloc (.cells #[v] 52) := by
  go_enter Tryz.func127, Tryz.ntmps127
  go_wp2
  go_ret
  exact ⟨rfl, rfl⟩
set_option maxHeartbeats 4000000 in
theorem isK_80 (e : Addr) (n : Nat) (w : World) :
    Calls Tryz.prog 22 #[chE e n, .iface 40 (.int .i64 80), .bool true] w fun ev w' => ev = .returned (.bool true) ∧ Grows w w' := by
  have nW := erNoIs
  have uW := erHasUnwrap
  have mU := erMethodUnwrap
  have oI := oNoIs
  have oU := oHasUnwrap
  have oM := oMethodUnwrap
  have nI := nNoIs
  have nU := nNoUnwrap
  have nV := nNoUnwraps
  have heq := erEq
  have htW : ∀ w, _ := fun w => run_eql_iface_types (P := Tryz.prog) 42 40 (.pointer (some e)) (.int .i64 80) Tryz.underlying36 (by decide) w
  have htO : ∀ v w, _ := fun v w => run_eql_iface_types (P := Tryz.prog) 52 40 v (.int .i64 80) Tryz.underlying36 (by decide) w
  go_enter Tryz.func22, Tryz.ntmps22
  go_wp2_with fail
  go_loopg [0] n (fun kx v0 wr => ∃ (k : Nat), v0 = chE e k ∧ k ≤ kx ∧ Hid (Grows w wr))
  case atStart => exact ⟨n, rfl, Nat.le_refl _, Grows.refl w⟩
  case round =>
    obtain ⟨k, rfl, hkx, HG⟩ := hrel
    cases k with
    | zero =>
      simp only [chE]
      go_wp2_with fail
      go_ret
      exact ⟨rfl, HG.out⟩
    | succ k =>
      cases k with
      | zero =>
        simp only [chE, chn]
        go_wp2_with fail
        go_wp2
        go_roundg 0
        case measure => omega
        case rel => exact ⟨0, rfl, by omega, HG⟩
      | succ k =>
        simp only [chE, chn]
        obtain ⟨t, x, hx⟩ := chn_is (v := .iface 42 (.pointer (some e))) ⟨_, _, rfl⟩ k
        have HX : Hid (chE e (k + 1) = .iface t x) := hx
        rw [hx]
        clear hx
        go_wp2_with (go_at_call 127; refine (unwrap_outer _ _).mono ?_; rintro ev w' ⟨rfl, rfl⟩)
        go_roundg (k + 1)
        case measure => omega
        case rel => exact ⟨k + 1, HX.out.symm, by omega, HG.out.trans (Grows.alloc _ _)⟩
set_option maxHeartbeats 4000000 in
theorem isK_90 (e : Addr) (n : Nat) (w : World) :
    Calls Tryz.prog 22 #[chE e n, .iface 40 (.int .i64 90), .bool true] w fun ev w' => ev = .returned (.bool false) ∧ Grows w w' := by
  have nW := erNoIs
  have uW := erHasUnwrap
  have mU := erMethodUnwrap
  have oI := oNoIs
  have oU := oHasUnwrap
  have oM := oMethodUnwrap
  have nI := nNoIs
  have nU := nNoUnwrap
  have nV := nNoUnwraps
  have heq := erEq90
  have htW : ∀ w, _ := fun w => run_eql_iface_types (P := Tryz.prog) 42 40 (.pointer (some e)) (.int .i64 90) Tryz.underlying36 (by decide) w
  have htO : ∀ v w, _ := fun v w => run_eql_iface_types (P := Tryz.prog) 52 40 v (.int .i64 90) Tryz.underlying36 (by decide) w
  go_enter Tryz.func22, Tryz.ntmps22
  go_wp2_with fail
  go_loopg [0] n (fun kx v0 wr => ∃ (k : Nat), v0 = chE e k ∧ k ≤ kx ∧ Hid (Grows w wr))
  case atStart => exact ⟨n, rfl, Nat.le_refl _, Grows.refl w⟩
  case round =>
    obtain ⟨k, rfl, hkx, HG⟩ := hrel
    cases k with
    | zero =>
      simp only [chE]
      go_wp2_with fail
      go_ret
      exact ⟨rfl, HG.out⟩
    | succ k =>
      cases k with
      | zero =>
        simp only [chE, chn]
        go_wp2_with fail
        go_wp2
        go_roundg 0
        case measure => omega
        case rel => exact ⟨0, rfl, by omega, HG⟩
      | succ k =>
        simp only [chE, chn]
        obtain ⟨t, x, hx⟩ := chn_is (v := .iface 42 (.pointer (some e))) ⟨_, _, rfl⟩ k
        have HX : Hid (chE e (k + 1) = .iface t x) := hx
        rw [hx]
        clear hx
        go_wp2_with (go_at_call 127; refine (unwrap_outer _ _).mono ?_; rintro ev w' ⟨rfl, rfl⟩)
        go_roundg (k + 1)
        case measure => omega
        case rel => exact ⟨k + 1, HX.out.symm, by omega, HG.out.trans (Grows.alloc _ _)⟩
end Go.Proofs.YtiiihjihegilnaaGreatDoor
