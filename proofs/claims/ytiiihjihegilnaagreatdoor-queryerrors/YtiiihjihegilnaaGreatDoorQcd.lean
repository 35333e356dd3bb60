/- Code: of nil, and of what is wrong. -/
import Derived.Test.YtiiihjihegilnaaGreatDoorQae
import Derived.Test.YtiiihjihegilnaaGreatDoorQaw
import Derived.Defers
import Derived.Recover
namespace Go.Proofs.YtiiihjihegilnaaGreatDoor
open Go.RowKit

theorem catch_idle (p : Addr) (w : World) :
    CallsD Tryz.prog 43 #[.pointer (some p)] .returning w fun e u' w' => e = .returned (.tuple #[]) ∧ u' = .returning ∧ w' = w := by
  refine callsD_of_wpS Tryz.func43 rfl fun c₀ cs hu => ?_
  apply wpS_seq
  apply wpS_region
  simp [wpOpsS, go_sem, recoverD, hu, Tryz.ntmps43, Exit.thenS]
  refine wpS_cond (t := false) (by simp [Act.eval, Array.replicate]) ?_
  simp only [Bool.false_eq_true, if_false]
  refine wpS_of_wp (wp_skip ?_)
  cases c₀
  simp_all [bodyPostS, results, Tryz.results43]
set_option maxHeartbeats 4000000 in
theorem number_wrong (e : Addr) (w : World) (hg : Hnd w) :
    Calls Tryz.prog 20 #[.iface 42 (.pointer (some e))] w fun ev w' => ev = .returned (.int .i64 80) ∧ Below w.heap.size w w' := by
  have hmf : ∀ (fn : Fn) (first cap : Array Value) (w : World), (Instr.makeFunc fn first cap).run Tryz.prog w = .ok (.func fn first cap) w := fun _ _ _ _ => rfl
  obtain ⟨V, hV⟩ : ∃ V, V = (w.alloc (.cells #[.int .i64 0] 40)).alloc (.cells #[.int .i64 0] 40) := ⟨_, rfl⟩
  have bV : Below w.heap.size w V := by rw [hV]; exact ((Grows.alloc _ _).trans (Grows.alloc _ _)).below
  have tV : V.cell? ⟨w.heap.size + 1, 0, none⟩ = some (.int .i64 0) := by rw [hV, World.cell?_alloc_at _ _ _ _ (by simp)]; rfl
  have sV : V.cell? ⟨w.heap.size, 0, none⟩ = some (.int .i64 0) := by rw [hV]; exact cell_grow (by simp) _
  have fV : V.frozen? ⟨w.heap.size + 1, 0, none⟩ = false := by rw [hV]; exact World.frozen?_alloc_at _ _ _ _ (by simp)
  have gV : V.frozen? ⟨w.heap.size, 0, none⟩ = false := by rw [hV, World.frozen?_alloc_past _ _ _ (by simp)]; exact World.frozen?_alloc_at _ _ _ _ rfl
  have zV : V.heap.size = w.heap.size + 1 + 1 := by rw [hV]; simp
  have kA := as_errno e ⟨w.heap.size + 1, 0, none⟩ (.int .i64 0) V (hg.up bV) tV fV
  obtain ⟨X, hX⟩ : ∃ X, X = aeW V ⟨w.heap.size + 1, 0, none⟩ := ⟨_, rfl⟩
  have bX : Below w.heap.size w X := by
    rw [hX]; unfold aeW
    exact Below.setCell (p := ⟨w.heap.size + 1, 0, none⟩) ((((bV.alloc bV.size _).alloc (Nat.le_trans bV.size (by simp)) _).alloc (Nat.le_trans bV.size (by simp; omega)) _).alloc (Nat.le_trans bV.size (by simp; omega)) _) (Nat.le_succ _) _
  have tX : X.cell? ⟨w.heap.size + 1, 0, none⟩ = some (.int .i64 80) := by
    rw [hX]; unfold aeW
    exact World.cell?_setCell_same _ _ _ (cell_grow (cell_grow (cell_grow (cell_grow tV _) _) _) _)
  have sX : X.cell? ⟨w.heap.size, 0, none⟩ = some (.int .i64 0) := by
    rw [hX]; unfold aeW
    rw [World.cell?_setCell_other _ _ _ _ (fun h => by have := congrArg Addr.block h; simp at this)]
    exact cell_grow (cell_grow (cell_grow (cell_grow sV _) _) _) _
  have fX : X.frozen? ⟨w.heap.size, 0, none⟩ = false := by
    rw [hX]; unfold aeW
    rw [World.frozen?_setCell, World.frozen?_alloc_past _ _ _ (by simp; omega), World.frozen?_alloc_past _ _ _ (by simp; omega), World.frozen?_alloc_past _ _ _ (by simp; omega), World.frozen?_alloc_past _ _ _ (by omega)]
    exact gV
  rw [← hX] at kA
  have HV : Hid _ := hV
  have HBX : Hid _ := bX
  rw [hV] at kA
  clear hV bV tV sV fV gV zV hX bX
  go_enter_defers Tryz.func20, Tryz.ntmps20
  go_wp2_with fail
  refine kA.mono ?_
  rintro ev X' ⟨rfl, rfl⟩
  go_wp2_with fail
  refine leaves_cons (f := 43) (args := #[.pointer (some ⟨w.heap.size, 0, none⟩)]) (by simp) (by simp [go_sem]) ?_
  refine (catch_idle ⟨w.heap.size, 0, none⟩ _).mono ?_
  rintro ev u' w'' ⟨rfl, rfl, rfl⟩
  have sY := World.cell?_setCell_same _ ⟨w.heap.size, 0, none⟩ (.int .i64 80) sX
  have bY := HBX.out.setCell (p := ⟨w.heap.size, 0, none⟩) (Nat.le_refl _) (.int .i64 80)
  simp [Leaves, settle, results, Tryz.results20, go_sem, sY]
  exact bY
theorem code_nil (w : World) : Calls Tryz.prog 8 #[.nilIface] w fun e w' => e = .returned (.int .i64 0) ∧ w' = w := by
  go_enter Tryz.func8, Tryz.ntmps8
  go_wp2_with fail
  go_ret
  exact ⟨rfl, rfl⟩
theorem code_wrong (e : Addr) (w : World) (hg : Hnd w) :
    Calls Tryz.prog 8 #[.iface 42 (.pointer (some e))] w fun ev w' => ev = .returned (.int .i64 80) ∧ Below w.heap.size w w' := by
  have k := number_wrong e w hg
  go_enter Tryz.func8, Tryz.ntmps8
  go_wp2_with fail
  refine k.mono ?_
  rintro ev X ⟨rfl, b⟩
  go_wp2_with fail
  go_ret
  exact ⟨rfl, b⟩
end Go.Proofs.YtiiihjihegilnaaGreatDoor
