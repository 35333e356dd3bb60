/- The contract of a *Wrong's Error: a text that is not empty. -/
import Derived.Test.YtiiihjihegilnaaGreatDoorShelf
import Derived.Test.YtiiihjihegilnaaGreatDoorQrd
namespace Go.Proofs.YtiiihjihegilnaaGreatDoor
open Go.RowKit Go.Sort

theorem dec_short : ∀ i, i < 100 → (⟨(Lib.decDigits i).toArray⟩ : ByteArray).size ≤ 100 := by decide +kernel
set_option maxRecDepth 100000 in
set_option maxHeartbeats 4000000 in
theorem error_wrong (w : World) (B : Nat) (s : ByteArray) (i : Nat) (hi : i < 100) (hs : s.size ≤ 100) (h0 : w.cell? ⟨B, 0, none⟩ = some (.string s)) (h1 : w.cell? ⟨B, 1, none⟩ = some (.int .i64 i)) :
    Calls Tryz.prog 11 #[.pointer (some ⟨B, 0, none⟩)] w fun e w' => (∃ t, e = .returned (.string t) ∧ t ≠ ⟨#[]⟩) ∧ Grows w w' := by
  have mixed : Tryz.prog.follows .mixedOrders = true := by kernel_rfl
  have z0 := fun nq os => cell_gro h0 nq os
  have z1 := fun nq os => cell_gro h1 nq os
  obtain ⟨d, hd⟩ : ∃ d : ByteArray, d = ⟨(Lib.decDigits i).toArray⟩ := ⟨_, rfl⟩
  have kI : ∀ nq os, Calls Tryz.prog 27 #[.int .i64 i] (grow (w.drewN nq) os) fun e w' => e = .returned (.string d) ∧ ∃ q os', w' = grow ((grow (w.drewN nq) os).drewN q) os' := fun nq os =>
    (Go.Proofs.Tryz.strconv_Itoa_small i hi (grow (w.drewN nq) os)).mono fun e w' h => ⟨by rw [hd]; exact h.1, by rw [h.2]; exact Grows.refl _⟩
  have hdl : d.size ≤ 100 := by rw [hd]; exact dec_short i hi
  clear hd h0 h1
  go_enter Tryz.func11, Tryz.ntmps11
  go_wp2_with fail
  have n1 : ¬ (9223372036854775807 < 36 + s.size) := by omega
  have n2 : ¬ (9223372036854775807 < 36 + s.size + 1) := by omega
  have n3 : ¬ (9223372036854775807 < 36 + s.size + 1 + d.size) := by omega
  refine wp_region_quiet_grown (by assumption) (by kernel_rfl) ?_
  repeat (go_big_quiet_step (first | (go_at_call 27; with_reducible refine Calls.grown_of (kI _ _))))
  refine wpQuiet_nil ?_
  intro T hw'
  obtain ⟨⟨nq, osq⟩, hw''⟩ := hw'
  have HGT : Hid (Grows w T) := ⟨nq, osq, hw''⟩
  clear hw'' kI z0 z1
  go_wp2_with fail
  go_ret
  refine ⟨⟨_, rfl, ?_⟩, HGT.out⟩
  intro e
  have := congrArg ByteArray.size e
  simp at this
  have a : (⟨#[32]⟩ : ByteArray).size = 1 := rfl
  have b : (⟨#[]⟩ : ByteArray).size = 0 := rfl
  omega
end Go.Proofs.YtiiihjihegilnaaGreatDoor
