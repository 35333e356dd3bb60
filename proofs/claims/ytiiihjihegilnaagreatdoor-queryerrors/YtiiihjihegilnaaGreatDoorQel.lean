/- Code of errors that wrap others; errors.New; what a *Wrong that is none tells. -/
import Derived.Test.YtiiihjihegilnaaGreatDoorQek
namespace Go.Proofs.YtiiihjihegilnaaGreatDoor
open Go.RowKit

/-- errors.As finds a number in c. -/
def Finds (c : Value) (z : Int) : Prop := ∀ (t : Addr) (old : Value) (V : World), Hnd V → V.cell? t = some old → V.frozen? t = false →
  Calls Tryz.prog 10 #[c, .iface 92 (.pointer (some t))] V fun ev w' => ev = .returned (.bool true) ∧ ∃ X, Grows V X ∧ w' = X.setCell t (.int .i64 z)
/-- errors.As finds none in c. -/
def FindsNo (c : Value) : Prop := ∀ (t : Addr) (old : Value) (V : World), Hnd V → V.cell? t = some old → V.frozen? t = false →
  Calls Tryz.prog 10 #[c, .iface 92 (.pointer (some t))] V fun ev w' => ev = .returned (.bool false) ∧ Grows V w'
set_option maxHeartbeats 4000000 in
theorem number_set (c : Value) (z : Int) (w : World) (hA : Finds c z) (hg : Hnd w) :
    Calls Tryz.prog 20 #[c] w fun ev w' => ev = .returned (.int .i64 z) ∧ Below w.heap.size w w' := by
  have hmf : ∀ (fn : Fn) (first cap : Array Value) (w : World), (Instr.makeFunc fn first cap).run Tryz.prog w = .ok (.func fn first cap) w := fun _ _ _ _ => rfl
  obtain ⟨V, hV⟩ : ∃ V, V = (w.alloc (.cells #[.int .i64 0] 40)).alloc (.cells #[.int .i64 0] 40) := ⟨_, rfl⟩
  have bV : Below w.heap.size w V := by rw [hV]; exact ((Grows.alloc _ _).trans (Grows.alloc _ _)).below
  have tV : V.cell? ⟨w.heap.size + 1, 0, none⟩ = some (.int .i64 0) := by rw [hV, World.cell?_alloc_at _ _ _ _ (by simp)]; rfl
  have sV : V.cell? ⟨w.heap.size, 0, none⟩ = some (.int .i64 0) := by rw [hV]; exact cell_grow (by simp) _
  have fV : V.frozen? ⟨w.heap.size + 1, 0, none⟩ = false := by rw [hV]; exact World.frozen?_alloc_at _ _ _ _ (by simp)
  have gV : V.frozen? ⟨w.heap.size, 0, none⟩ = false := by rw [hV, World.frozen?_alloc_past _ _ _ (by simp)]; exact World.frozen?_alloc_at _ _ _ _ rfl
  have zV : V.heap.size = w.heap.size + 1 + 1 := by rw [hV]; simp
  have kA := hA ⟨w.heap.size + 1, 0, none⟩ (.int .i64 0) V (hg.up bV) tV fV
  have HV : Hid (V = _) := hV
  have HF : Hid (Below w.heap.size w V ∧ V.cell? ⟨w.heap.size + 1, 0, none⟩ = some (.int .i64 0) ∧ V.cell? ⟨w.heap.size, 0, none⟩ = some (.int .i64 0) ∧ V.frozen? ⟨w.heap.size, 0, none⟩ = false) := ⟨bV, tV, sV, gV⟩
  rw [hV] at kA
  clear hV bV tV sV fV gV zV hA
  go_enter_defers Tryz.func20, Tryz.ntmps20
  go_wp2_with fail
  refine kA.mono ?_
  rintro ev X' ⟨rfl, X, gX, rfl⟩
  rw [← HV.out] at gX
  have xB : Below w.heap.size w X := HF.out.1.trans (gX.below.mono HF.out.1.size)
  have xt : X.cell? ⟨w.heap.size + 1, 0, none⟩ = some (.int .i64 0) := cell_up gX.below HF.out.2.1
  have xs : X.cell? ⟨w.heap.size, 0, none⟩ = some (.int .i64 0) := cell_up gX.below HF.out.2.2.1
  have xf : X.frozen? ⟨w.heap.size, 0, none⟩ = false := by rw [gX.below.frozen (World.block_lt_of_cell? _ _ HF.out.2.2.1)]; exact HF.out.2.2.2
  obtain ⟨Y, hY⟩ : ∃ Y, Y = X.setCell ⟨w.heap.size + 1, 0, none⟩ (.int .i64 z) := ⟨_, rfl⟩
  have HBX : Hid (Below w.heap.size w Y) := by rw [hY]; exact xB.setCell (p := ⟨w.heap.size + 1, 0, none⟩) (Nat.le_succ _) _
  have tX : Y.cell? ⟨w.heap.size + 1, 0, none⟩ = some (.int .i64 z) := by rw [hY]; exact World.cell?_setCell_same _ _ _ xt
  have sX : Y.cell? ⟨w.heap.size, 0, none⟩ = some (.int .i64 0) := by
    rw [hY, World.cell?_setCell_other _ _ _ _ (fun h => by have := congrArg Addr.block h; simp at this)]
    exact xs
  have fX : Y.frozen? ⟨w.heap.size, 0, none⟩ = false := by rw [hY, World.frozen?_setCell]; exact xf
  rw [← hY]
  clear hY xB xt xs xf gX kA
  go_wp2_with fail
  refine leaves_cons (f := 43) (args := #[.pointer (some ⟨w.heap.size, 0, none⟩)]) (by simp) (by simp [go_sem]) ?_
  refine (catch_idle ⟨w.heap.size, 0, none⟩ _).mono ?_
  rintro ev u' w'' ⟨rfl, rfl, rfl⟩
  have sY := World.cell?_setCell_same _ ⟨w.heap.size, 0, none⟩ (.int .i64 z) sX
  have bY := HBX.out.setCell (p := ⟨w.heap.size, 0, none⟩) (Nat.le_refl _) (.int .i64 z)
  simp [Leaves, settle, results, Tryz.results20, go_sem, sY]
  exact bY
set_option maxHeartbeats 4000000 in
theorem number_no (c : Value) (w : World) (hA : FindsNo c) (hg : Hnd w) :
    Calls Tryz.prog 20 #[c] w fun ev w' => ev = .returned (.int .i64 1) ∧ Below w.heap.size w w' := by
  have hmf : ∀ (fn : Fn) (first cap : Array Value) (w : World), (Instr.makeFunc fn first cap).run Tryz.prog w = .ok (.func fn first cap) w := fun _ _ _ _ => rfl
  obtain ⟨V, hV⟩ : ∃ V, V = (w.alloc (.cells #[.int .i64 0] 40)).alloc (.cells #[.int .i64 0] 40) := ⟨_, rfl⟩
  have bV : Below w.heap.size w V := by rw [hV]; exact ((Grows.alloc _ _).trans (Grows.alloc _ _)).below
  have tV : V.cell? ⟨w.heap.size + 1, 0, none⟩ = some (.int .i64 0) := by rw [hV, World.cell?_alloc_at _ _ _ _ (by simp)]; rfl
  have sV : V.cell? ⟨w.heap.size, 0, none⟩ = some (.int .i64 0) := by rw [hV]; exact cell_grow (by simp) _
  have fV : V.frozen? ⟨w.heap.size + 1, 0, none⟩ = false := by rw [hV]; exact World.frozen?_alloc_at _ _ _ _ (by simp)
  have gV : V.frozen? ⟨w.heap.size, 0, none⟩ = false := by rw [hV, World.frozen?_alloc_past _ _ _ (by simp)]; exact World.frozen?_alloc_at _ _ _ _ rfl
  have kA := hA ⟨w.heap.size + 1, 0, none⟩ (.int .i64 0) V (hg.up bV) tV fV
  have HV : Hid (V = _) := hV
  have HF : Hid (Below w.heap.size w V ∧ V.cell? ⟨w.heap.size, 0, none⟩ = some (.int .i64 0) ∧ V.frozen? ⟨w.heap.size, 0, none⟩ = false) := ⟨bV, sV, gV⟩
  rw [hV] at kA
  clear hV bV tV sV fV gV hA
  go_enter_defers Tryz.func20, Tryz.ntmps20
  go_wp2_with fail
  refine kA.mono ?_
  rintro ev X ⟨rfl, gX⟩
  rw [← HV.out] at gX
  have HBX : Hid (Below w.heap.size w X) := HF.out.1.trans (gX.below.mono HF.out.1.size)
  have sX : X.cell? ⟨w.heap.size, 0, none⟩ = some (.int .i64 0) := cell_up gX.below HF.out.2.1
  have fX : X.frozen? ⟨w.heap.size, 0, none⟩ = false := by rw [gX.below.frozen (World.block_lt_of_cell? _ _ HF.out.2.1)]; exact HF.out.2.2
  clear gX kA
  go_wp2_with fail
  refine leaves_cons (f := 43) (args := #[.pointer (some ⟨w.heap.size, 0, none⟩)]) (by simp) (by simp [go_sem]) ?_
  refine (catch_idle ⟨w.heap.size, 0, none⟩ _).mono ?_
  rintro ev u' w'' ⟨rfl, rfl, rfl⟩
  have sY := World.cell?_setCell_same _ ⟨w.heap.size, 0, none⟩ (.int .i64 1) sX
  have bY := HBX.out.setCell (p := ⟨w.heap.size, 0, none⟩) (Nat.le_refl _) (.int .i64 1)
  simp [Leaves, settle, results, Tryz.results20, go_sem, sY]
  exact bY
theorem code_set (c : Value) (z : Int) (w : World) (hc : isI c) (hA : Finds c z) (hg : Hnd w) :
    Calls Tryz.prog 8 #[c] w fun ev w' => ev = .returned (.int .i64 z) ∧ Below w.heap.size w w' := by
  have k := number_set c z w hA hg
  obtain ⟨t, x, rfl⟩ := hc
  clear hA
  go_enter Tryz.func8, Tryz.ntmps8
  go_wp2_with fail
  refine k.mono ?_
  rintro ev X ⟨rfl, b⟩
  go_wp2_with fail
  go_ret
  exact ⟨rfl, b⟩
theorem code_no (c : Value) (w : World) (hc : isI c) (hA : FindsNo c) (hg : Hnd w) :
    Calls Tryz.prog 8 #[c] w fun ev w' => ev = .returned (.int .i64 1) ∧ Below w.heap.size w w' := by
  have k := number_no c w hA hg
  obtain ⟨t, x, rfl⟩ := hc
  clear hA
  go_enter Tryz.func8, Tryz.ntmps8
  go_wp2_with fail
  refine k.mono ?_
  rintro ev X ⟨rfl, b⟩
  go_wp2_with fail
  go_ret
  exact ⟨rfl, b⟩
theorem finds_E (e : Addr) (n : Nat) : Finds (chE e n) 80 := fun t old V hg h1 h2 => asA_E e t old n V hg h1 h2
theorem finds_N (z : Int) (n : Nat) : Finds (chn (.iface 40 (.int .i64 z)) n) z := fun t old V hg h1 h2 => asA_N z t old n V hg h1 h2
theorem finds_S (p : Value) (n : Nat) : FindsNo (chn (.iface 83 p) n) := fun t old V hg h1 h2 => asA_S p t old n V hg h1 h2
theorem new_any (s : ByteArray) (w : World) : Calls Tryz.prog 12 #[.string s] w fun ev w' => ev = .returned (.iface 83 (.pointer (some ⟨w.heap.size, 0, none⟩))) ∧ w' = w.alloc (.cells #[.string s] 85) := by
  go_enter Tryz.func12, Tryz.ntmps12
  go_wp2
  go_ret
  exact ⟨rfl, rfl⟩
theorem unwrap_none (w : World) : Calls Tryz.prog 13 #[.pointer none] w fun ev w' => ev = .returned (chE ⟨0, 0, none⟩ 0) ∧ w' = w := by
  go_enter Tryz.func13, Tryz.ntmps13
  go_wp2
  go_ret
  exact ⟨rfl, rfl⟩
theorem error_none (w : World) : Calls Tryz.prog 11 #[.pointer none] w fun ev w' => (∃ t : ByteArray, ev = .returned (.string t) ∧ t ≠ ⟨#[]⟩) ∧ w' = w := by
  go_enter Tryz.func11, Tryz.ntmps11
  go_wp2
  go_ret
  exact ⟨⟨_, rfl, by decide⟩, rfl⟩
end Go.Proofs.YtiiihjihegilnaaGreatDoor
