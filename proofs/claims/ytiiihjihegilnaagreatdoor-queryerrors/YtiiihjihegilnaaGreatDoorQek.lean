/- errors.Is, errors.As and Code of errors that wrap others, however deep. -/
import Derived.Test.YtiiihjihegilnaaGreatDoorQej
import Derived.Test.YtiiihjihegilnaaGreatDoorQaw
import Derived.Test.YtiiihjihegilnaaGreatDoorQcd
namespace Go.Proofs.YtiiihjihegilnaaGreatDoor
open Go.RowKit Go.Extern.Stop Go.Stop Go.Extern

set_option maxHeartbeats 4000000 in
theorem isA_80 (e : Addr) (n : Nat) (w : World) :
    Calls Tryz.prog 9 #[chE e n, .iface 40 (.int .i64 80)] w fun ev w' => ev = .returned (.bool true) ∧ Grows w w' := by
  have hT := @run_callFunc_extern Tryz.prog 21 _ ReflectliteType.typeOf Tryz.func21 (by kernel_rfl) (by kernel_rfl) (by kernel_rfl) (by kernel_rfl)
  have hC : ∀ w, (callFunc 134 #[.agg #[.pointer (some ⟨4, 40, none⟩)]]).run Tryz.prog w = .ok (.value (.bool true)) w := fun w => by
    rw [@run_callFunc_extern Tryz.prog 134 _ (ReflectliteType.method fun t => do Rtype.noPackHeld "Comparable" t; pure (.bool (← typeInfo t).comparable)) Tryz.func134 (by kernel_rfl) (by kernel_rfl) (by kernel_rfl) (by kernel_rfl), erComparable]; rfl
  have tT := erTypeOf
  have mR := erMethodComparable
  have kI := isK_80 e n w
  obtain ⟨t, x, hx⟩ := chE_is e n
  rw [hx] at kI ⊢
  clear hx
  go_enter Tryz.func9, Tryz.ntmps9
  go_wp2_with fail
  refine kI.mono ?_
  rintro ev w' ⟨rfl, b⟩
  go_wp2_with fail
  go_ret
  exact ⟨rfl, b⟩
set_option maxHeartbeats 4000000 in
theorem isA_90 (e : Addr) (n : Nat) (w : World) :
    Calls Tryz.prog 9 #[chE e n, .iface 40 (.int .i64 90)] w fun ev w' => ev = .returned (.bool false) ∧ Grows w w' := by
  have hT := @run_callFunc_extern Tryz.prog 21 _ ReflectliteType.typeOf Tryz.func21 (by kernel_rfl) (by kernel_rfl) (by kernel_rfl) (by kernel_rfl)
  have hC : ∀ w, (callFunc 134 #[.agg #[.pointer (some ⟨4, 40, none⟩)]]).run Tryz.prog w = .ok (.value (.bool true)) w := fun w => by
    rw [@run_callFunc_extern Tryz.prog 134 _ (ReflectliteType.method fun t => do Rtype.noPackHeld "Comparable" t; pure (.bool (← typeInfo t).comparable)) Tryz.func134 (by kernel_rfl) (by kernel_rfl) (by kernel_rfl) (by kernel_rfl), erComparable]; rfl
  have tT := erTypeOf
  have mR := erMethodComparable
  have kI := isK_90 e n w
  obtain ⟨t, x, hx⟩ := chE_is e n
  rw [hx] at kI ⊢
  clear hx
  go_enter Tryz.func9, Tryz.ntmps9
  go_wp2_with fail
  refine kI.mono ?_
  rintro ev w' ⟨rfl, b⟩
  go_wp2_with fail
  go_ret
  exact ⟨rfl, b⟩
set_option maxHeartbeats 4000000 in
theorem asA_W (e : Addr) (t : Addr) (old : Value) (n : Nat) (w : World) (hg : Hnd w) (ht0 : w.cell? t = some old) (hf0 : w.frozen? t = false) :
    Calls Tryz.prog 10 #[chn (.iface 42 (.pointer (some e))) n, .iface 45 (.pointer (some t))] w fun ev w' => ev = .returned (.bool true) ∧ ∃ X, Grows w X ∧ w' = X.setCell t (.pointer (some e)) := by
  have h6 := @run_callFunc_extern Tryz.prog 23 _ (fun args => ReflectliteValue.unpack (args.getD 0 (.tuple #[]))) Tryz.func23 (by kernel_rfl) (by kernel_rfl) (by kernel_rfl) (by kernel_rfl)
  have h7 := @run_callFunc_extern Tryz.prog 24 _ (ReflectliteValue.methodAny (ReflectliteValue.valueError "reflectlite.Value.Type" 0) (fun t _ _ _ => ReflectliteType.toType t)) Tryz.func24 (by kernel_rfl) (by kernel_rfl) (by kernel_rfl) (by kernel_rfl)
  have h8 := @run_callFunc_extern Tryz.prog 25 _ (ReflectliteValue.method (ReflectliteValue.valueError "reflectlite.Value.IsNil" 0) ReflectliteValue.isNil) Tryz.func25 (by kernel_rfl) (by kernel_rfl) (by kernel_rfl) (by kernel_rfl)
  have h27 := @run_callFunc_extern Tryz.prog 122 _ (ReflectliteType.abiMethod fun t => do pure (.int .u8 (← Rtype.kind t))) Tryz.func122 (by kernel_rfl) (by kernel_rfl) (by kernel_rfl) (by kernel_rfl)
  have h37 := @run_callFunc_extern Tryz.prog 135 _ (ReflectliteType.method ReflectliteType.elem) Tryz.func135 (by kernel_rfl) (by kernel_rfl) (by kernel_rfl) (by kernel_rfl)
  have h38 := @run_callFunc_extern Tryz.prog 136 _ (ReflectliteType.relation "Implements" ReflectliteType.implements_) Tryz.func136 (by kernel_rfl) (by kernel_rfl) (by kernel_rfl) (by kernel_rfl)
  have fP := asValueP
  have f7 := asTypeP
  have mK := asMKind
  have mE := asMElem
  have mI := asMImpl
  have kP := asKindP
  have kE := asKindE
  have eP := asElemP
  have iE := asImplE
  obtain ⟨V, hV⟩ : ∃ V, V = (w.alloc (.cells #[.pointer (some t)] 45)).alloc (.cells #[.pointer (some ⟨4, 45, none⟩), .pointer (some ⟨w.heap.size, 0, none⟩), .int .u64 150] 75) := ⟨_, rfl⟩
  have gV : Grows w V := by rw [hV]; exact (Grows.alloc _ _).trans (Grows.alloc _ _)
  have qV : V.cell? ⟨w.heap.size, 0, none⟩ = some (.pointer (some t)) := by rw [hV]; simp
  have htl : t.block < w.heap.size := World.block_lt_of_cell? _ _ ht0
  have kA := asK_W e t ⟨w.heap.size, 0, none⟩ old n V qV (by rw [gV.below.cell htl]; exact ht0) (by rw [gV.below.frozen htl]; exact hf0)
  have n8 := asNilP ⟨w.heap.size, 0, none⟩ t V qV
  have hg2 : V.cell? ⟨0, 0, none⟩ = some (.iface 94 (.agg #[.pointer (some ⟨4, 36, none⟩)])) := hg.up gV.below
  have HV : Hid (Grows w V) := gV
  obtain ⟨tt, x, hx⟩ := chn_is (v := .iface 42 (.pointer (some e))) ⟨_, _, rfl⟩ n
  rw [hx] at kA ⊢
  rw [hV] at kA n8 hg2
  clear hx gV qV htl hg ht0 hf0
  go_enter Tryz.func10, Tryz.ntmps10
  go_wp2_with fail
  refine kA.mono ?_
  rintro ev w' ⟨rfl, X, gX, rfl⟩
  rw [← hV] at gX
  go_wp2_with fail
  go_ret
  exact ⟨rfl, X, HV.out.trans gX, rfl⟩
set_option maxHeartbeats 4000000 in
theorem asA_E (e : Addr) (t : Addr) (old : Value) (n : Nat) (w : World) (hg : Hnd w) (ht0 : w.cell? t = some old) (hf0 : w.frozen? t = false) :
    Calls Tryz.prog 10 #[chE e n, .iface 92 (.pointer (some t))] w fun ev w' => ev = .returned (.bool true) ∧ ∃ X, Grows w X ∧ w' = X.setCell t (.int .i64 80) := by
  have h6 := @run_callFunc_extern Tryz.prog 23 _ (fun args => ReflectliteValue.unpack (args.getD 0 (.tuple #[]))) Tryz.func23 (by kernel_rfl) (by kernel_rfl) (by kernel_rfl) (by kernel_rfl)
  have h7 := @run_callFunc_extern Tryz.prog 24 _ (ReflectliteValue.methodAny (ReflectliteValue.valueError "reflectlite.Value.Type" 0) (fun t _ _ _ => ReflectliteType.toType t)) Tryz.func24 (by kernel_rfl) (by kernel_rfl) (by kernel_rfl) (by kernel_rfl)
  have h8 := @run_callFunc_extern Tryz.prog 25 _ (ReflectliteValue.method (ReflectliteValue.valueError "reflectlite.Value.IsNil" 0) ReflectliteValue.isNil) Tryz.func25 (by kernel_rfl) (by kernel_rfl) (by kernel_rfl) (by kernel_rfl)
  have h27 := @run_callFunc_extern Tryz.prog 122 _ (ReflectliteType.abiMethod fun t => do pure (.int .u8 (← Rtype.kind t))) Tryz.func122 (by kernel_rfl) (by kernel_rfl) (by kernel_rfl) (by kernel_rfl)
  have h37 := @run_callFunc_extern Tryz.prog 135 _ (ReflectliteType.method ReflectliteType.elem) Tryz.func135 (by kernel_rfl) (by kernel_rfl) (by kernel_rfl) (by kernel_rfl)
  have h38 := @run_callFunc_extern Tryz.prog 136 _ (ReflectliteType.relation "Implements" ReflectliteType.implements_) Tryz.func136 (by kernel_rfl) (by kernel_rfl) (by kernel_rfl) (by kernel_rfl)
  have fP := aeValueP
  have f7 := aeTypeP
  have mK := asMKind
  have mE := asMElem
  have mI := asMImpl
  have kP := aeKindP
  have kE := aeKindE
  have eP := aeElemP
  have iE := aeImplE
  obtain ⟨V, hV⟩ : ∃ V, V = (w.alloc (.cells #[.pointer (some t)] 92)).alloc (.cells #[.pointer (some ⟨4, 92, none⟩), .pointer (some ⟨w.heap.size, 0, none⟩), .int .u64 150] 75) := ⟨_, rfl⟩
  have gV : Grows w V := by rw [hV]; exact (Grows.alloc _ _).trans (Grows.alloc _ _)
  have qV : V.cell? ⟨w.heap.size, 0, none⟩ = some (.pointer (some t)) := by rw [hV]; simp
  have htl : t.block < w.heap.size := World.block_lt_of_cell? _ _ ht0
  have kA := asK_E e t ⟨w.heap.size, 0, none⟩ old n V qV (by rw [gV.below.cell htl]; exact ht0) (by rw [gV.below.frozen htl]; exact hf0)
  have n8 := aeNilP ⟨w.heap.size, 0, none⟩ t V qV
  have hg2 : V.cell? ⟨0, 0, none⟩ = some (.iface 94 (.agg #[.pointer (some ⟨4, 36, none⟩)])) := hg.up gV.below
  have HV : Hid (Grows w V) := gV
  obtain ⟨tt, x, hx⟩ := chE_is e n
  rw [hx] at kA ⊢
  rw [hV] at kA n8 hg2
  clear hx gV qV htl hg ht0 hf0
  go_enter Tryz.func10, Tryz.ntmps10
  go_wp2_with fail
  refine kA.mono ?_
  rintro ev w' ⟨rfl, X, gX, rfl⟩
  rw [← hV] at gX
  go_wp2_with fail
  go_ret
  exact ⟨rfl, X, HV.out.trans gX, rfl⟩
set_option maxHeartbeats 4000000 in
theorem asA_N (z : Int) (t : Addr) (old : Value) (n : Nat) (w : World) (hg : Hnd w) (ht0 : w.cell? t = some old) (hf0 : w.frozen? t = false) :
    Calls Tryz.prog 10 #[chn (.iface 40 (.int .i64 z)) n, .iface 92 (.pointer (some t))] w fun ev w' => ev = .returned (.bool true) ∧ ∃ X, Grows w X ∧ w' = X.setCell t (.int .i64 z) := by
  have h6 := @run_callFunc_extern Tryz.prog 23 _ (fun args => ReflectliteValue.unpack (args.getD 0 (.tuple #[]))) Tryz.func23 (by kernel_rfl) (by kernel_rfl) (by kernel_rfl) (by kernel_rfl)
  have h7 := @run_callFunc_extern Tryz.prog 24 _ (ReflectliteValue.methodAny (ReflectliteValue.valueError "reflectlite.Value.Type" 0) (fun t _ _ _ => ReflectliteType.toType t)) Tryz.func24 (by kernel_rfl) (by kernel_rfl) (by kernel_rfl) (by kernel_rfl)
  have h8 := @run_callFunc_extern Tryz.prog 25 _ (ReflectliteValue.method (ReflectliteValue.valueError "reflectlite.Value.IsNil" 0) ReflectliteValue.isNil) Tryz.func25 (by kernel_rfl) (by kernel_rfl) (by kernel_rfl) (by kernel_rfl)
  have h27 := @run_callFunc_extern Tryz.prog 122 _ (ReflectliteType.abiMethod fun t => do pure (.int .u8 (← Rtype.kind t))) Tryz.func122 (by kernel_rfl) (by kernel_rfl) (by kernel_rfl) (by kernel_rfl)
  have h37 := @run_callFunc_extern Tryz.prog 135 _ (ReflectliteType.method ReflectliteType.elem) Tryz.func135 (by kernel_rfl) (by kernel_rfl) (by kernel_rfl) (by kernel_rfl)
  have h38 := @run_callFunc_extern Tryz.prog 136 _ (ReflectliteType.relation "Implements" ReflectliteType.implements_) Tryz.func136 (by kernel_rfl) (by kernel_rfl) (by kernel_rfl) (by kernel_rfl)
  have fP := aeValueP
  have f7 := aeTypeP
  have mK := asMKind
  have mE := asMElem
  have mI := asMImpl
  have kP := aeKindP
  have kE := aeKindE
  have eP := aeElemP
  have iE := aeImplE
  obtain ⟨V, hV⟩ : ∃ V, V = (w.alloc (.cells #[.pointer (some t)] 92)).alloc (.cells #[.pointer (some ⟨4, 92, none⟩), .pointer (some ⟨w.heap.size, 0, none⟩), .int .u64 150] 75) := ⟨_, rfl⟩
  have gV : Grows w V := by rw [hV]; exact (Grows.alloc _ _).trans (Grows.alloc _ _)
  have qV : V.cell? ⟨w.heap.size, 0, none⟩ = some (.pointer (some t)) := by rw [hV]; simp
  have htl : t.block < w.heap.size := World.block_lt_of_cell? _ _ ht0
  have kA := asK_N z t ⟨w.heap.size, 0, none⟩ old n V qV (by rw [gV.below.cell htl]; exact ht0) (by rw [gV.below.frozen htl]; exact hf0)
  have n8 := aeNilP ⟨w.heap.size, 0, none⟩ t V qV
  have hg2 : V.cell? ⟨0, 0, none⟩ = some (.iface 94 (.agg #[.pointer (some ⟨4, 36, none⟩)])) := hg.up gV.below
  have HV : Hid (Grows w V) := gV
  obtain ⟨tt, x, hx⟩ := chn_is (v := .iface 40 (.int .i64 z)) ⟨_, _, rfl⟩ n
  rw [hx] at kA ⊢
  rw [hV] at kA n8 hg2
  clear hx gV qV htl hg ht0 hf0
  go_enter Tryz.func10, Tryz.ntmps10
  go_wp2_with fail
  refine kA.mono ?_
  rintro ev w' ⟨rfl, X, gX, rfl⟩
  rw [← hV] at gX
  go_wp2_with fail
  go_ret
  exact ⟨rfl, X, HV.out.trans gX, rfl⟩
set_option maxHeartbeats 4000000 in
theorem asA_S (p : Value) (t : Addr) (old : Value) (n : Nat) (w : World) (hg : Hnd w) (ht0 : w.cell? t = some old) (hf0 : w.frozen? t = false) :
    Calls Tryz.prog 10 #[chn (.iface 83 p) n, .iface 92 (.pointer (some t))] w fun ev w' => ev = .returned (.bool false) ∧ Grows w w' := by
  have h6 := @run_callFunc_extern Tryz.prog 23 _ (fun args => ReflectliteValue.unpack (args.getD 0 (.tuple #[]))) Tryz.func23 (by kernel_rfl) (by kernel_rfl) (by kernel_rfl) (by kernel_rfl)
  have h7 := @run_callFunc_extern Tryz.prog 24 _ (ReflectliteValue.methodAny (ReflectliteValue.valueError "reflectlite.Value.Type" 0) (fun t _ _ _ => ReflectliteType.toType t)) Tryz.func24 (by kernel_rfl) (by kernel_rfl) (by kernel_rfl) (by kernel_rfl)
  have h8 := @run_callFunc_extern Tryz.prog 25 _ (ReflectliteValue.method (ReflectliteValue.valueError "reflectlite.Value.IsNil" 0) ReflectliteValue.isNil) Tryz.func25 (by kernel_rfl) (by kernel_rfl) (by kernel_rfl) (by kernel_rfl)
  have h27 := @run_callFunc_extern Tryz.prog 122 _ (ReflectliteType.abiMethod fun t => do pure (.int .u8 (← Rtype.kind t))) Tryz.func122 (by kernel_rfl) (by kernel_rfl) (by kernel_rfl) (by kernel_rfl)
  have h37 := @run_callFunc_extern Tryz.prog 135 _ (ReflectliteType.method ReflectliteType.elem) Tryz.func135 (by kernel_rfl) (by kernel_rfl) (by kernel_rfl) (by kernel_rfl)
  have h38 := @run_callFunc_extern Tryz.prog 136 _ (ReflectliteType.relation "Implements" ReflectliteType.implements_) Tryz.func136 (by kernel_rfl) (by kernel_rfl) (by kernel_rfl) (by kernel_rfl)
  have fP := aeValueP
  have f7 := aeTypeP
  have mK := asMKind
  have mE := asMElem
  have mI := asMImpl
  have kP := aeKindP
  have kE := aeKindE
  have eP := aeElemP
  have iE := aeImplE
  obtain ⟨V, hV⟩ : ∃ V, V = (w.alloc (.cells #[.pointer (some t)] 92)).alloc (.cells #[.pointer (some ⟨4, 92, none⟩), .pointer (some ⟨w.heap.size, 0, none⟩), .int .u64 150] 75) := ⟨_, rfl⟩
  have gV : Grows w V := by rw [hV]; exact (Grows.alloc _ _).trans (Grows.alloc _ _)
  have qV : V.cell? ⟨w.heap.size, 0, none⟩ = some (.pointer (some t)) := by rw [hV]; simp
  have htl : t.block < w.heap.size := World.block_lt_of_cell? _ _ ht0
  have kA := asK_S p t ⟨w.heap.size, 0, none⟩ old n V qV (by rw [gV.below.cell htl]; exact ht0) (by rw [gV.below.frozen htl]; exact hf0)
  have n8 := aeNilP ⟨w.heap.size, 0, none⟩ t V qV
  have hg2 : V.cell? ⟨0, 0, none⟩ = some (.iface 94 (.agg #[.pointer (some ⟨4, 36, none⟩)])) := hg.up gV.below
  have HV : Hid (Grows w V) := gV
  obtain ⟨tt, x, hx⟩ := chn_is (v := .iface 83 p) ⟨_, _, rfl⟩ n
  rw [hx] at kA ⊢
  rw [hV] at kA n8 hg2
  clear hx gV qV htl hg ht0 hf0
  go_enter Tryz.func10, Tryz.ntmps10
  go_wp2_with fail
  refine kA.mono ?_
  rintro ev w' ⟨rfl, gX⟩
  rw [← hV] at gX
  go_wp2_with fail
  go_ret
  exact ⟨rfl, HV.out.trans gX⟩
end Go.Proofs.YtiiihjihegilnaaGreatDoor
