/- Contracts of the reference's rises and Check. -/
import Derived.Test.YtiiihjihegilnaaGreatDoorQst
import Derived.Test.YtiiihjihegilnaaGreatDoorQck
import Derived.Test.YtiiihjihegilnaaGreatDoorFi2
namespace Go.Proofs.YtiiihjihegilnaaGreatDoor
open Go.RowKit Go.Sort

theorem cell_gro {w : World} {a : Addr} {v : Value} (h : w.cell? a = some v) (nq : Nat) (os : Array Obj) : (grow (w.drewN nq) os).cell? a = some v := cell_up (Grows.below ⟨nq, os, rfl⟩) h

set_option maxRecDepth 100000 in
set_option maxHeartbeats 4000000 in
theorem refrises_any (w : World) (v : Value) (l : List Int) (D M : Int) (h : Rds w v (iv l)) :
    Calls Tryz.prog 18 #[.agg #[.int .i64 D, .int .i64 M], v] w fun e w' => e = .returned (.bool (risB D l 0)) ∧ Grows w w' := by
  obtain ⟨ao, n, cap, rfl⟩ := h.sl
  obtain ⟨e0, e1, e2, -⟩ := h.ints
  unfold maxLen at e2
  obtain ⟨W, hW⟩ : ∃ W, W = w.alloc (.cells #[.int .i64 D, .int .i64 M] 23) := ⟨_, rfl⟩
  have HGW : Hid (Grows w W) := by rw [hW]; exact Grows.alloc _ _
  have HBX : Hid (W.cell? ⟨w.heap.size, 0, none⟩ = some (.int .i64 D)) := by rw [hW]; exact al_new _ _ _ rfl rfl
  have HH : Hid (Rds W (.slice ao n cap) (iv l)) := h.below (Grows.below HGW.out)
  have HN : Hid (n = l.length) := e0
  have HW : Hid _ := hW
  have mixed : Tryz.prog.follows .mixedOrders = true := by kernel_rfl
  clear h e0 hW
  go_enter Tryz.func18, Tryz.ntmps18
  go_wp2_with fail
  rw [← HW.out]
  go_loopg [5] n (fun kx v5 wr => ∃ (i : Nat) (z : Int), v5 = .int .i64 i ∧ i ≤ n ∧ n - i ≤ kx ∧ 0 ≤ z ∧ Hid ((i = 0 → z = 0) ∧ ∀ j, i = j + 1 → z = l.getD j 0 + 1) ∧ Hid (risB D l 0 = risB D (l.drop i) z) ∧ Hid (Grows W wr))
  case atStart => exact ⟨0, 0, rfl, by omega, Nat.le_refl _, by omega, ⟨fun _ => rfl, fun j hj => by omega⟩, rfl, Grows.refl _⟩
  case round =>
    obtain ⟨i, z, rfl, hi, hkx, hz0, HZ, HR, HG⟩ := hrel
    by_cases hlt : i < n
    · have hltz : (i : Int) < (n : Int) := by omega
      have hil : i < l.length := by have := HN.out; omega
      obtain ⟨-, -, -, hd⟩ := (HH.out.below (Grows.below HG.out)).ints
      obtain ⟨b, off, rfl, hc⟩ := hd (by omega)
      have cD := cell_up (Grows.below HG.out) HBX.out
      have hci := hc i hil
      have hx : l.getD i 0 = l[i] := by simp [hil]
      have hst : risB D (l.drop i) z = (decide (z ≤ l[i]) && (decide (l[i] < D) && risB D (l.drop (i + 1)) (l[i] + 1))) := by rw [List.drop_eq_getElem_cons hil]; rfl
      have HX : Hid (∀ j, i + 1 = j + 1 → l[i] + 1 = l.getD j 0 + 1) := fun j hj => by
        obtain rfl : j = i := by omega
        rw [hx]
      rw [hx] at hci
      generalize l[i] = x at *
      have HST : Hid _ := hst
      have HCC : Aside _ := hc
      have zi := fun nq os => cell_gro hci nq os
      have zD := fun nq os => cell_gro cD nq os
      clear hst hx hc hd hci cD
      by_cases h1 : x < 0
      · have HF : Hid (risB D l 0 = false) := by show _ = _; rw [HR.out, HST.out, decide_eq_false (by omega)]; rfl
        go_wp2_with fail
        refine wp_region_quiet_grown (by assumption) (by kernel_rfl) ?_
        repeat (go_big_quiet_step (fail))
        refine wpQuiet_nil ?_
        intro T hw'
        obtain ⟨⟨nq, osq⟩, hw''⟩ := hw'
        have HGT : Hid (Grows W T) := Grows.trans HG.out ⟨nq, osq, hw''⟩
        clear hw''
        go_wp2_with fail
        go_ret
        exact ⟨by rw [HF.out]; rfl, HGW.out.trans HGT.out⟩
      · by_cases h2 : D ≤ x
        · have HF : Hid (risB D l 0 = false) := by show _ = _; rw [HR.out, HST.out, decide_eq_false (show ¬ x < D by omega)]; simp
          go_wp2_with fail
          have d0 : decide (x < 0) = false := decide_eq_false (by omega)
          have d1 : decide (D ≤ x) = true := decide_eq_true (by omega)
          refine wp_region_quiet_grown (by assumption) (by kernel_rfl) ?_
          repeat (go_big_quiet_step (fail))
          refine wpQuiet_nil ?_
          intro T hw'
          obtain ⟨⟨nq, osq⟩, hw''⟩ := hw'
          have HGT : Hid (Grows W T) := Grows.trans HG.out ⟨nq, osq, hw''⟩
          clear hw''
          go_wp2_with fail
          go_ret
          exact ⟨by rw [HF.out]; rfl, HGW.out.trans HGT.out⟩
        · by_cases h0 : i = 0
          · have hz := HZ.out.1 h0
            have HF : Hid (risB D l 0 = risB D (l.drop (i + 1)) (x + 1)) := by show _ = _; rw [HR.out, HST.out, decide_eq_true (show z ≤ x by omega), decide_eq_true (show x < D by omega)]; rfl
            have H0 : Hid (i = 0) := h0
            clear h0
            go_wp2_with fail
            have d0 : decide (x < 0) = false := decide_eq_false (by omega)
            have d1 : decide (D ≤ x) = false := decide_eq_false (by omega)
            have d2 : decide ((0 : Int) < (i : Int)) = false := decide_eq_false (by have := H0.out; omega)
            have d3 : decide (0 < i) = false := decide_eq_false (by have := H0.out; omega)
            refine wp_region_quiet_grown (by assumption) (by kernel_rfl) ?_
            repeat (go_big_quiet_step (fail))
            refine wpQuiet_nil ?_
            intro T hw'
            obtain ⟨⟨nq, osq⟩, hw''⟩ := hw'
            have HGT : Hid (Grows W T) := Grows.trans HG.out ⟨nq, osq, hw''⟩
            clear hw''
            go_wp2_with fail
            go_roundg (n - (i + 1))
            case measure => omega
            case rel => exact ⟨i + 1, x + 1, by go_num, by omega, Nat.le_refl _, by omega, ⟨fun h => by omega, HX.out⟩, HF, HGT⟩
          · obtain ⟨j, rfl⟩ : ∃ j, i = j + 1 := ⟨i - 1, by omega⟩
            have hz := HZ.out.2 j rfl
            have hcj := HCC.out j (by omega)
            generalize l.getD j 0 = y at *
            have zj := fun nq os => cell_gro hcj nq os
            clear hcj
            have hjz : ((j + 1 : Nat) : Int) - 1 = (j : Int) := by omega
            have hj0 : (0 : Int) < ((j + 1 : Nat) : Int) := by omega
            have hjn : (j : Int) < (n : Int) := by omega
            by_cases h3 : x ≤ y
            · have HF : Hid (risB D l 0 = false) := by show _ = _; rw [HR.out, HST.out, decide_eq_false (show ¬ z ≤ x by omega)]; rfl
              go_wp2_with fail
              have d0 : decide (x < 0) = false := decide_eq_false (by omega)
              have d1 : decide (D ≤ x) = false := decide_eq_false (by omega)
              have d2 : decide (x ≤ y) = true := decide_eq_true (by omega)
              refine wp_region_quiet_grown (by assumption) (by kernel_rfl) ?_
              repeat (go_big_quiet_step (fail))
              refine wpQuiet_nil ?_
              intro T hw'
              obtain ⟨⟨nq, osq⟩, hw''⟩ := hw'
              have HGT : Hid (Grows W T) := Grows.trans HG.out ⟨nq, osq, hw''⟩
              clear hw''
              go_wp2_with fail
              go_ret
              exact ⟨by rw [HF.out]; rfl, HGW.out.trans HGT.out⟩
            · have HF : Hid (risB D l 0 = risB D (l.drop (j + 1 + 1)) (x + 1)) := by show _ = _; rw [HR.out, HST.out, decide_eq_true (show z ≤ x by omega), decide_eq_true (show x < D by omega)]; rfl
              go_wp2_with fail
              have d0 : decide (x < 0) = false := decide_eq_false (by omega)
              have d1 : decide (D ≤ x) = false := decide_eq_false (by omega)
              have d2 : decide (x ≤ y) = false := decide_eq_false (by omega)
              refine wp_region_quiet_grown (by assumption) (by kernel_rfl) ?_
              repeat (go_big_quiet_step (fail))
              refine wpQuiet_nil ?_
              intro T hw'
              obtain ⟨⟨nq, osq⟩, hw''⟩ := hw'
              have HGT : Hid (Grows W T) := Grows.trans HG.out ⟨nq, osq, hw''⟩
              clear hw''
              go_wp2_with fail
              go_roundg (n - (j + 1 + 1))
              case measure => omega
              case rel => exact ⟨j + 1 + 1, x + 1, by go_num, by omega, Nat.le_refl _, by omega, ⟨fun h => by omega, HX.out⟩, HF, HGT⟩
    · have hltz : ¬ (i : Int) < (n : Int) := by omega
      have HF : Hid (risB D l 0 = true) := by show _ = _; rw [HR.out, List.drop_of_length_le (by have := HN.out; omega)]; rfl
      go_wp2_with fail
      go_ret
      exact ⟨by rw [HF.out]; rfl, HGW.out.trans HG.out⟩
end Go.Proofs.YtiiihjihegilnaaGreatDoor
