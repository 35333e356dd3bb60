/- errors.As of errors that wrap others, however deep. -/
import Derived.Test.YtiiihjihegilnaaGreatDoorQae
import Derived.Test.YtiiihjihegilnaaGreatDoorQei
namespace Go.Proofs.YtiiihjihegilnaaGreatDoor
open Go.RowKit Go.Extern.Stop Go.Stop Go.Extern
theorem oTypeOf (v : Value) (w : World) : (ReflectliteType.typeOf #[.iface 52 v]).run Tryz.prog w = .ok (.iface 94 (.agg #[.pointer (some ⟨4, 52, none⟩)])) w := by kernel_rfl
theorem sTypeOf (v : Value) (w : World) : (ReflectliteType.typeOf #[.iface 83 v]).run Tryz.prog w = .ok (.iface 94 (.agg #[.pointer (some ⟨4, 83, none⟩)])) w := by kernel_rfl
theorem oAssignW (w : World) : (ReflectliteType.relation "AssignableTo" ReflectliteType.assignableTo #[.agg #[.pointer (some ⟨4, 52, none⟩)], .iface 94 (.agg #[.pointer (some ⟨4, 42, none⟩)])]).run Tryz.prog w = .ok (.bool false) w := by kernel_rfl
theorem oAssignN (w : World) : (ReflectliteType.relation "AssignableTo" ReflectliteType.assignableTo #[.agg #[.pointer (some ⟨4, 52, none⟩)], .iface 94 (.agg #[.pointer (some ⟨4, 40, none⟩)])]).run Tryz.prog w = .ok (.bool false) w := by kernel_rfl
theorem sAssignN (w : World) : (ReflectliteType.relation "AssignableTo" ReflectliteType.assignableTo #[.agg #[.pointer (some ⟨4, 83, none⟩)], .iface 94 (.agg #[.pointer (some ⟨4, 40, none⟩)])]).run Tryz.prog w = .ok (.bool false) w := by kernel_rfl
theorem oNoAs (v : Value) (xT : TypeId) (w : World) : (Instr.typeAssert (.iface 52 v) xT 105 true).run Tryz.prog w = .ok (.tuple #[.nilIface, .bool false]) w := run_typeAssert_lacksB Tryz.underlying105 (by kernel_rfl) (by kernel_rfl) v xT w
theorem sNoAs (v : Value) (xT : TypeId) (w : World) : (Instr.typeAssert (.iface 83 v) xT 105 true).run Tryz.prog w = .ok (.tuple #[.nilIface, .bool false]) w := run_typeAssert_lacksB Tryz.underlying105 (by kernel_rfl) (by kernel_rfl) v xT w
theorem sNoUnwrap (v : Value) (xT : TypeId) (w : World) : (Instr.typeAssert (.iface 83 v) xT 99 true).run Tryz.prog w = .ok (.tuple #[.nilIface, .bool false]) w := run_typeAssert_lacksB Tryz.underlying99 (by kernel_rfl) (by kernel_rfl) v xT w
theorem sNoUnwraps (v : Value) (xT : TypeId) (w : World) : (Instr.typeAssert (.iface 83 v) xT 100 true).run Tryz.prog w = .ok (.tuple #[.nilIface, .bool false]) w := run_typeAssert_lacksB Tryz.underlying100 (by kernel_rfl) (by kernel_rfl) v xT w
set_option maxHeartbeats 4000000 in
theorem asK_W (e : Addr) (t a : Addr) (old : Value) (n : Nat) (w : World) (ha : w.cell? a = some (.pointer (some t))) (ht0 : w.cell? t = some old) (hf0 : w.frozen? t = false) :
    Calls Tryz.prog 26 #[chn (.iface 42 (.pointer (some e))) n, .iface 45 (.pointer (some t)), .agg #[.pointer (some ⟨4, 45, none⟩), .pointer (some a), .int .u64 150], .iface 94 (.agg #[.pointer (some ⟨4, 42, none⟩)])] w fun ev w' => ev = .returned (.bool true) ∧ ∃ X, Grows w X ∧ w' = X.setCell t (.pointer (some e)) := by
  have h6 := @run_callFunc_extern Tryz.prog 23 _ (fun args => ReflectliteValue.unpack (args.getD 0 (.tuple #[]))) Tryz.func23 (by kernel_rfl) (by kernel_rfl) (by kernel_rfl) (by kernel_rfl)
  have h10 := @run_callFunc_extern Tryz.prog 21 _ ReflectliteType.typeOf Tryz.func21 (by kernel_rfl) (by kernel_rfl) (by kernel_rfl) (by kernel_rfl)
  have h35 := @run_callFunc_extern Tryz.prog 133 _ (ReflectliteType.relation "AssignableTo" ReflectliteType.assignableTo) Tryz.func133 (by kernel_rfl) (by kernel_rfl) (by kernel_rfl) (by kernel_rfl)
  have h11 := @run_callFunc_extern Tryz.prog 44 _ (ReflectliteValue.method (ReflectliteValue.valueError "reflectlite.Value.Elem" 0) ReflectliteValue.elem) Tryz.func44 (by kernel_rfl) (by kernel_rfl) (by kernel_rfl) (by kernel_rfl)
  have h12 := @run_callFunc_extern Tryz.prog 45 _ ReflectliteValue.set Tryz.func45 (by kernel_rfl) (by kernel_rfl) (by kernel_rfl) (by kernel_rfl)
  have mA := asMAssign
  have tO := asTypeOfE
  have aE := asAssignE
  have vE := asValueE
  have oT := oTypeOf
  have oA := oAssignW
  have oN := oNoAs
  have oU := oHasUnwrap
  have oM := oMethodUnwrap
  obtain ⟨W1, hW1⟩ : ∃ W1, W1 = w.alloc (.cells #[.pointer (some ⟨4, 45, none⟩), .pointer (some a), .int .u64 150] 75) := ⟨_, rfl⟩
  have g1 : Grows w W1 := by rw [hW1]; exact Grows.alloc _ _
  have y0 : W1.cell? ⟨w.heap.size, 0, none⟩ = some (.pointer (some ⟨4, 45, none⟩)) := by rw [hW1]; simp
  have y1 : W1.cell? ⟨w.heap.size, 1, none⟩ = some (.pointer (some a)) := by rw [hW1]; simp
  have y2 : W1.cell? ⟨w.heap.size, 2, none⟩ = some (.int .u64 150) := by rw [hW1]; simp
  have HY : Hid (W1.cell? ⟨w.heap.size, 0, none⟩ = some (.pointer (some ⟨4, 45, none⟩)) ∧ W1.cell? ⟨w.heap.size, 1, none⟩ = some (.pointer (some a)) ∧ W1.cell? ⟨w.heap.size, 2, none⟩ = some (.int .u64 150)) := ⟨y0, y1, y2⟩
  have HA : Hid (W1.cell? a = some (.pointer (some t)) ∧ W1.cell? t = some old ∧ W1.frozen? t = false) :=
    ⟨by rw [g1.below.cell (World.block_lt_of_cell? _ _ ha)]; exact ha, by rw [g1.below.cell (World.block_lt_of_cell? _ _ ht0)]; exact ht0, by rw [g1.below.frozen (World.block_lt_of_cell? _ _ ht0)]; exact hf0⟩
  have HW : Hid _ := hW1
  have HG1 : Hid (Grows w W1) := g1
  clear y0 y1 y2 ha ht0 hf0 hW1 g1
  go_enter Tryz.func26, Tryz.ntmps26
  go_wp2_with fail
  rw [← HW.out]
  go_loopg [0] n (fun kx v0 wr => ∃ (k : Nat), v0 = chn (.iface 42 (.pointer (some e))) k ∧ k ≤ kx ∧ Hid (Grows W1 wr))
  case atStart => exact ⟨n, rfl, Nat.le_refl _, Grows.refl W1⟩
  case round =>
    obtain ⟨k, rfl, hkx, HG⟩ := hrel
    have bG := HG.out.below
    have y0 : wr.cell? ⟨w.heap.size, 0, none⟩ = some (.pointer (some ⟨4, 45, none⟩)) := cell_up bG HY.out.1
    have y1 : wr.cell? ⟨w.heap.size, 1, none⟩ = some (.pointer (some a)) := cell_up bG HY.out.2.1
    have y2 : wr.cell? ⟨w.heap.size, 2, none⟩ = some (.int .u64 150) := cell_up bG HY.out.2.2
    have xa : wr.cell? a = some (.pointer (some t)) := cell_up bG HA.out.1
    have xt : wr.cell? t = some old := cell_up bG HA.out.2.1
    have xf : wr.frozen? t = false := by rw [bG.frozen (World.block_lt_of_cell? _ _ HA.out.2.1)]; exact HA.out.2.2
    clear bG
    cases k with
    | zero =>
      simp only [chn]
      have el := asElemV a t wr xa
      have xl : t.block < wr.heap.size := World.block_lt_of_cell? _ _ xt
      have st := asSet t ⟨wr.heap.size, 0, none⟩ e old (wr.alloc (.cells #[.pointer (some e)] 42)) (by simp) (cell_grow xt _) (by rw [(Grows.alloc wr _).below.frozen xl]; exact xf)
      go_wp2_with fail
      go_ret
      exact ⟨rfl, _, (HG1.out.trans HG.out).trans (Grows.alloc _ _), rfl⟩
    | succ k =>
      simp only [chn]
      obtain ⟨tt, x, hx⟩ := chn_is (v := .iface 42 (.pointer (some e))) ⟨_, _, rfl⟩ k
      have HX : Hid (chn (.iface 42 (.pointer (some e))) k = .iface tt x) := hx
      rw [hx]
      clear hx
      go_wp2_with (go_at_call 127; refine (unwrap_outer _ _).mono ?_; rintro ev w' ⟨rfl, rfl⟩)
      go_roundg (k)
      case measure => omega
      case rel => exact ⟨k, HX.out.symm, by omega, HG.out.trans (Grows.alloc _ _)⟩
set_option maxHeartbeats 4000000 in
theorem asK_E (e : Addr) (t a : Addr) (old : Value) (n : Nat) (w : World) (ha : w.cell? a = some (.pointer (some t))) (ht0 : w.cell? t = some old) (hf0 : w.frozen? t = false) :
    Calls Tryz.prog 26 #[chE e n, .iface 92 (.pointer (some t)), .agg #[.pointer (some ⟨4, 92, none⟩), .pointer (some a), .int .u64 150], .iface 94 (.agg #[.pointer (some ⟨4, 40, none⟩)])] w fun ev w' => ev = .returned (.bool true) ∧ ∃ X, Grows w X ∧ w' = X.setCell t (.int .i64 80) := by
  have h6 := @run_callFunc_extern Tryz.prog 23 _ (fun args => ReflectliteValue.unpack (args.getD 0 (.tuple #[]))) Tryz.func23 (by kernel_rfl) (by kernel_rfl) (by kernel_rfl) (by kernel_rfl)
  have h10 := @run_callFunc_extern Tryz.prog 21 _ ReflectliteType.typeOf Tryz.func21 (by kernel_rfl) (by kernel_rfl) (by kernel_rfl) (by kernel_rfl)
  have h35 := @run_callFunc_extern Tryz.prog 133 _ (ReflectliteType.relation "AssignableTo" ReflectliteType.assignableTo) Tryz.func133 (by kernel_rfl) (by kernel_rfl) (by kernel_rfl) (by kernel_rfl)
  have h11 := @run_callFunc_extern Tryz.prog 44 _ (ReflectliteValue.method (ReflectliteValue.valueError "reflectlite.Value.Elem" 0) ReflectliteValue.elem) Tryz.func44 (by kernel_rfl) (by kernel_rfl) (by kernel_rfl) (by kernel_rfl)
  have h12 := @run_callFunc_extern Tryz.prog 45 _ ReflectliteValue.set Tryz.func45 (by kernel_rfl) (by kernel_rfl) (by kernel_rfl) (by kernel_rfl)
  have mA := asMAssign
  have tO := aeTypeOfE
  have aE := aeAssignE
  have vE := aeValueE
  have tW := asTypeOfE
  have aW := aeAssignW
  have nA := aeNoAs
  have uW := erHasUnwrap
  have mU := erMethodUnwrap
  have oT := oTypeOf
  have oA := oAssignN
  have oN := oNoAs
  have oU := oHasUnwrap
  have oM := oMethodUnwrap
  obtain ⟨W1, hW1⟩ : ∃ W1, W1 = w.alloc (.cells #[.pointer (some ⟨4, 92, none⟩), .pointer (some a), .int .u64 150] 75) := ⟨_, rfl⟩
  have g1 : Grows w W1 := by rw [hW1]; exact Grows.alloc _ _
  have y0 : W1.cell? ⟨w.heap.size, 0, none⟩ = some (.pointer (some ⟨4, 92, none⟩)) := by rw [hW1]; simp
  have y1 : W1.cell? ⟨w.heap.size, 1, none⟩ = some (.pointer (some a)) := by rw [hW1]; simp
  have y2 : W1.cell? ⟨w.heap.size, 2, none⟩ = some (.int .u64 150) := by rw [hW1]; simp
  have HY : Hid (W1.cell? ⟨w.heap.size, 0, none⟩ = some (.pointer (some ⟨4, 92, none⟩)) ∧ W1.cell? ⟨w.heap.size, 1, none⟩ = some (.pointer (some a)) ∧ W1.cell? ⟨w.heap.size, 2, none⟩ = some (.int .u64 150)) := ⟨y0, y1, y2⟩
  have HA : Hid (W1.cell? a = some (.pointer (some t)) ∧ W1.cell? t = some old ∧ W1.frozen? t = false) :=
    ⟨by rw [g1.below.cell (World.block_lt_of_cell? _ _ ha)]; exact ha, by rw [g1.below.cell (World.block_lt_of_cell? _ _ ht0)]; exact ht0, by rw [g1.below.frozen (World.block_lt_of_cell? _ _ ht0)]; exact hf0⟩
  have HW : Hid _ := hW1
  have HG1 : Hid (Grows w W1) := g1
  clear y0 y1 y2 ha ht0 hf0 hW1 g1
  go_enter Tryz.func26, Tryz.ntmps26
  go_wp2_with fail
  rw [← HW.out]
  go_loopg [0] n (fun kx v0 wr => ∃ (k : Nat), v0 = chE e k ∧ k ≤ kx ∧ Hid (Grows W1 wr))
  case atStart => exact ⟨n, rfl, Nat.le_refl _, Grows.refl W1⟩
  case round =>
    obtain ⟨k, rfl, hkx, HG⟩ := hrel
    have bG := HG.out.below
    have y0 : wr.cell? ⟨w.heap.size, 0, none⟩ = some (.pointer (some ⟨4, 92, none⟩)) := cell_up bG HY.out.1
    have y1 : wr.cell? ⟨w.heap.size, 1, none⟩ = some (.pointer (some a)) := cell_up bG HY.out.2.1
    have y2 : wr.cell? ⟨w.heap.size, 2, none⟩ = some (.int .u64 150) := cell_up bG HY.out.2.2
    have xa : wr.cell? a = some (.pointer (some t)) := cell_up bG HA.out.1
    have xt : wr.cell? t = some old := cell_up bG HA.out.2.1
    have xf : wr.frozen? t = false := by rw [bG.frozen (World.block_lt_of_cell? _ _ HA.out.2.1)]; exact HA.out.2.2
    clear bG
    cases k with
    | zero =>
      simp only [chE]
      have el := aeElemV a t wr xa
      have xl : t.block < wr.heap.size := World.block_lt_of_cell? _ _ xt
      have st := aeSet t ⟨wr.heap.size, 0, none⟩ 80 old (wr.alloc (.cells #[.int .i64 80] 40)) (by simp) (cell_grow xt _) (by rw [(Grows.alloc wr _).below.frozen xl]; exact xf)
      go_wp2_with fail
      go_ret
      exact ⟨rfl, _, (HG1.out.trans HG.out).trans (Grows.alloc _ _), rfl⟩
    | succ k =>
      cases k with
      | zero =>
        simp only [chE, chn]
        go_wp2_with fail
        go_wp2
        go_roundg 0
        case measure => omega
        case rel => exact ⟨0, rfl, by omega, HG⟩
      | succ k =>
        simp only [chE, chn]
        obtain ⟨tt, x, hx⟩ := chn_is (v := .iface 42 (.pointer (some e))) ⟨_, _, rfl⟩ k
        have HX : Hid (chE e (k + 1) = .iface tt x) := hx
        rw [hx]
        clear hx
        go_wp2_with (go_at_call 127; refine (unwrap_outer _ _).mono ?_; rintro ev w' ⟨rfl, rfl⟩)
        go_roundg (k + 1)
        case measure => omega
        case rel => exact ⟨k + 1, HX.out.symm, by omega, HG.out.trans (Grows.alloc _ _)⟩
set_option maxHeartbeats 4000000 in
theorem asK_N (z : Int) (t a : Addr) (old : Value) (n : Nat) (w : World) (ha : w.cell? a = some (.pointer (some t))) (ht0 : w.cell? t = some old) (hf0 : w.frozen? t = false) :
    Calls Tryz.prog 26 #[chn (.iface 40 (.int .i64 z)) n, .iface 92 (.pointer (some t)), .agg #[.pointer (some ⟨4, 92, none⟩), .pointer (some a), .int .u64 150], .iface 94 (.agg #[.pointer (some ⟨4, 40, none⟩)])] w fun ev w' => ev = .returned (.bool true) ∧ ∃ X, Grows w X ∧ w' = X.setCell t (.int .i64 z) := by
  have h6 := @run_callFunc_extern Tryz.prog 23 _ (fun args => ReflectliteValue.unpack (args.getD 0 (.tuple #[]))) Tryz.func23 (by kernel_rfl) (by kernel_rfl) (by kernel_rfl) (by kernel_rfl)
  have h10 := @run_callFunc_extern Tryz.prog 21 _ ReflectliteType.typeOf Tryz.func21 (by kernel_rfl) (by kernel_rfl) (by kernel_rfl) (by kernel_rfl)
  have h35 := @run_callFunc_extern Tryz.prog 133 _ (ReflectliteType.relation "AssignableTo" ReflectliteType.assignableTo) Tryz.func133 (by kernel_rfl) (by kernel_rfl) (by kernel_rfl) (by kernel_rfl)
  have h11 := @run_callFunc_extern Tryz.prog 44 _ (ReflectliteValue.method (ReflectliteValue.valueError "reflectlite.Value.Elem" 0) ReflectliteValue.elem) Tryz.func44 (by kernel_rfl) (by kernel_rfl) (by kernel_rfl) (by kernel_rfl)
  have h12 := @run_callFunc_extern Tryz.prog 45 _ ReflectliteValue.set Tryz.func45 (by kernel_rfl) (by kernel_rfl) (by kernel_rfl) (by kernel_rfl)
  have mA := asMAssign
  have tO := aeTypeOfE
  have aE := aeAssignE
  have vE := aeValueE
  have oT := oTypeOf
  have oA := oAssignN
  have oN := oNoAs
  have oU := oHasUnwrap
  have oM := oMethodUnwrap
  obtain ⟨W1, hW1⟩ : ∃ W1, W1 = w.alloc (.cells #[.pointer (some ⟨4, 92, none⟩), .pointer (some a), .int .u64 150] 75) := ⟨_, rfl⟩
  have g1 : Grows w W1 := by rw [hW1]; exact Grows.alloc _ _
  have y0 : W1.cell? ⟨w.heap.size, 0, none⟩ = some (.pointer (some ⟨4, 92, none⟩)) := by rw [hW1]; simp
  have y1 : W1.cell? ⟨w.heap.size, 1, none⟩ = some (.pointer (some a)) := by rw [hW1]; simp
  have y2 : W1.cell? ⟨w.heap.size, 2, none⟩ = some (.int .u64 150) := by rw [hW1]; simp
  have HY : Hid (W1.cell? ⟨w.heap.size, 0, none⟩ = some (.pointer (some ⟨4, 92, none⟩)) ∧ W1.cell? ⟨w.heap.size, 1, none⟩ = some (.pointer (some a)) ∧ W1.cell? ⟨w.heap.size, 2, none⟩ = some (.int .u64 150)) := ⟨y0, y1, y2⟩
  have HA : Hid (W1.cell? a = some (.pointer (some t)) ∧ W1.cell? t = some old ∧ W1.frozen? t = false) :=
    ⟨by rw [g1.below.cell (World.block_lt_of_cell? _ _ ha)]; exact ha, by rw [g1.below.cell (World.block_lt_of_cell? _ _ ht0)]; exact ht0, by rw [g1.below.frozen (World.block_lt_of_cell? _ _ ht0)]; exact hf0⟩
  have HW : Hid _ := hW1
  have HG1 : Hid (Grows w W1) := g1
  clear y0 y1 y2 ha ht0 hf0 hW1 g1
  go_enter Tryz.func26, Tryz.ntmps26
  go_wp2_with fail
  rw [← HW.out]
  go_loopg [0] n (fun kx v0 wr => ∃ (k : Nat), v0 = chn (.iface 40 (.int .i64 z)) k ∧ k ≤ kx ∧ Hid (Grows W1 wr))
  case atStart => exact ⟨n, rfl, Nat.le_refl _, Grows.refl W1⟩
  case round =>
    obtain ⟨k, rfl, hkx, HG⟩ := hrel
    have bG := HG.out.below
    have y0 : wr.cell? ⟨w.heap.size, 0, none⟩ = some (.pointer (some ⟨4, 92, none⟩)) := cell_up bG HY.out.1
    have y1 : wr.cell? ⟨w.heap.size, 1, none⟩ = some (.pointer (some a)) := cell_up bG HY.out.2.1
    have y2 : wr.cell? ⟨w.heap.size, 2, none⟩ = some (.int .u64 150) := cell_up bG HY.out.2.2
    have xa : wr.cell? a = some (.pointer (some t)) := cell_up bG HA.out.1
    have xt : wr.cell? t = some old := cell_up bG HA.out.2.1
    have xf : wr.frozen? t = false := by rw [bG.frozen (World.block_lt_of_cell? _ _ HA.out.2.1)]; exact HA.out.2.2
    clear bG
    cases k with
    | zero =>
      simp only [chn]
      have el := aeElemV a t wr xa
      have xl : t.block < wr.heap.size := World.block_lt_of_cell? _ _ xt
      have st := aeSet t ⟨wr.heap.size, 0, none⟩ z old (wr.alloc (.cells #[.int .i64 z] 40)) (by simp) (cell_grow xt _) (by rw [(Grows.alloc wr _).below.frozen xl]; exact xf)
      go_wp2_with fail
      go_ret
      exact ⟨rfl, _, (HG1.out.trans HG.out).trans (Grows.alloc _ _), rfl⟩
    | succ k =>
      simp only [chn]
      obtain ⟨tt, x, hx⟩ := chn_is (v := .iface 40 (.int .i64 z)) ⟨_, _, rfl⟩ k
      have HX : Hid (chn (.iface 40 (.int .i64 z)) k = .iface tt x) := hx
      rw [hx]
      clear hx
      go_wp2_with (go_at_call 127; refine (unwrap_outer _ _).mono ?_; rintro ev w' ⟨rfl, rfl⟩)
      go_roundg (k)
      case measure => omega
      case rel => exact ⟨k, HX.out.symm, by omega, HG.out.trans (Grows.alloc _ _)⟩
set_option maxHeartbeats 4000000 in
theorem asK_S (p : Value) (t a : Addr) (old : Value) (n : Nat) (w : World) (ha : w.cell? a = some (.pointer (some t))) (ht0 : w.cell? t = some old) (hf0 : w.frozen? t = false) :
    Calls Tryz.prog 26 #[chn (.iface 83 p) n, .iface 92 (.pointer (some t)), .agg #[.pointer (some ⟨4, 92, none⟩), .pointer (some a), .int .u64 150], .iface 94 (.agg #[.pointer (some ⟨4, 40, none⟩)])] w fun ev w' => ev = .returned (.bool false) ∧ Grows w w' := by
  have h6 := @run_callFunc_extern Tryz.prog 23 _ (fun args => ReflectliteValue.unpack (args.getD 0 (.tuple #[]))) Tryz.func23 (by kernel_rfl) (by kernel_rfl) (by kernel_rfl) (by kernel_rfl)
  have h10 := @run_callFunc_extern Tryz.prog 21 _ ReflectliteType.typeOf Tryz.func21 (by kernel_rfl) (by kernel_rfl) (by kernel_rfl) (by kernel_rfl)
  have h35 := @run_callFunc_extern Tryz.prog 133 _ (ReflectliteType.relation "AssignableTo" ReflectliteType.assignableTo) Tryz.func133 (by kernel_rfl) (by kernel_rfl) (by kernel_rfl) (by kernel_rfl)
  have h11 := @run_callFunc_extern Tryz.prog 44 _ (ReflectliteValue.method (ReflectliteValue.valueError "reflectlite.Value.Elem" 0) ReflectliteValue.elem) Tryz.func44 (by kernel_rfl) (by kernel_rfl) (by kernel_rfl) (by kernel_rfl)
  have h12 := @run_callFunc_extern Tryz.prog 45 _ ReflectliteValue.set Tryz.func45 (by kernel_rfl) (by kernel_rfl) (by kernel_rfl) (by kernel_rfl)
  have mA := asMAssign
  have tO := sTypeOf
  have aE := sAssignN
  have sN := sNoAs
  have sU := sNoUnwrap
  have sV := sNoUnwraps
  have oT := oTypeOf
  have oA := oAssignN
  have oN := oNoAs
  have oU := oHasUnwrap
  have oM := oMethodUnwrap
  obtain ⟨W1, hW1⟩ : ∃ W1, W1 = w.alloc (.cells #[.pointer (some ⟨4, 92, none⟩), .pointer (some a), .int .u64 150] 75) := ⟨_, rfl⟩
  have g1 : Grows w W1 := by rw [hW1]; exact Grows.alloc _ _
  have y0 : W1.cell? ⟨w.heap.size, 0, none⟩ = some (.pointer (some ⟨4, 92, none⟩)) := by rw [hW1]; simp
  have y1 : W1.cell? ⟨w.heap.size, 1, none⟩ = some (.pointer (some a)) := by rw [hW1]; simp
  have y2 : W1.cell? ⟨w.heap.size, 2, none⟩ = some (.int .u64 150) := by rw [hW1]; simp
  have HY : Hid (W1.cell? ⟨w.heap.size, 0, none⟩ = some (.pointer (some ⟨4, 92, none⟩)) ∧ W1.cell? ⟨w.heap.size, 1, none⟩ = some (.pointer (some a)) ∧ W1.cell? ⟨w.heap.size, 2, none⟩ = some (.int .u64 150)) := ⟨y0, y1, y2⟩
  have HA : Hid (W1.cell? a = some (.pointer (some t)) ∧ W1.cell? t = some old ∧ W1.frozen? t = false) :=
    ⟨by rw [g1.below.cell (World.block_lt_of_cell? _ _ ha)]; exact ha, by rw [g1.below.cell (World.block_lt_of_cell? _ _ ht0)]; exact ht0, by rw [g1.below.frozen (World.block_lt_of_cell? _ _ ht0)]; exact hf0⟩
  have HW : Hid _ := hW1
  have HG1 : Hid (Grows w W1) := g1
  clear y0 y1 y2 ha ht0 hf0 hW1 g1
  go_enter Tryz.func26, Tryz.ntmps26
  go_wp2_with fail
  rw [← HW.out]
  go_loopg [0] n (fun kx v0 wr => ∃ (k : Nat), v0 = chn (.iface 83 p) k ∧ k ≤ kx ∧ Hid (Grows W1 wr))
  case atStart => exact ⟨n, rfl, Nat.le_refl _, Grows.refl W1⟩
  case round =>
    obtain ⟨k, rfl, hkx, HG⟩ := hrel
    have bG := HG.out.below
    have y0 : wr.cell? ⟨w.heap.size, 0, none⟩ = some (.pointer (some ⟨4, 92, none⟩)) := cell_up bG HY.out.1
    have y1 : wr.cell? ⟨w.heap.size, 1, none⟩ = some (.pointer (some a)) := cell_up bG HY.out.2.1
    have y2 : wr.cell? ⟨w.heap.size, 2, none⟩ = some (.int .u64 150) := cell_up bG HY.out.2.2
    have xa : wr.cell? a = some (.pointer (some t)) := cell_up bG HA.out.1
    have xt : wr.cell? t = some old := cell_up bG HA.out.2.1
    have xf : wr.frozen? t = false := by rw [bG.frozen (World.block_lt_of_cell? _ _ HA.out.2.1)]; exact HA.out.2.2
    clear bG
    cases k with
    | zero =>
      simp only [chn]
      go_wp2_with fail
      go_ret
      exact ⟨rfl, HG1.out.trans HG.out⟩
    | succ k =>
      simp only [chn]
      obtain ⟨tt, x, hx⟩ := chn_is (v := .iface 83 p) ⟨_, _, rfl⟩ k
      have HX : Hid (chn (.iface 83 p) k = .iface tt x) := hx
      rw [hx]
      clear hx
      go_wp2_with (go_at_call 127; refine (unwrap_outer _ _).mono ?_; rintro ev w' ⟨rfl, rfl⟩)
      go_roundg (k)
      case measure => omega
      case rel => exact ⟨k, HX.out.symm, by omega, HG.out.trans (Grows.alloc _ _)⟩
end Go.Proofs.YtiiihjihegilnaaGreatDoor
