/- The contract of the reference's Check. -/
import Derived.Test.YtkoihniggoelnaaMay
namespace Go.Proofs.Ytkoihniggoelnaa
open Go.RowKit Go.Sort

set_option maxHeartbeats 4000000 in
theorem refcheck_any (w : World) (D M : Int) (v : Value) (l : List (Int × Int)) (h : RdsK 2 w v l.length (av l)) :
    Calls Try.prog 12 #[.agg #[.int .i64 D, .int .i64 M], v] w fun e w' => e = .returned (.int .i64 (errB (decide (l.length ≤ 16) && fitsL D M l))) ∧ Grows w w' := by
  obtain ⟨ao, n, cap, rfl⟩ : ∃ ao n cap, v = .slice ao n cap := by obtain ⟨ao, cap, rfl, _⟩ := h; exact ⟨_, _, _, rfl⟩
  obtain ⟨hn, hl, hc1, hc2, hc3, -⟩ := h.cells (by decide)
  unfold maxLen at hc2
  obtain ⟨W, hW⟩ : ∃ W, W = w.alloc (.cells #[.int .i64 D, .int .i64 M] 23) := ⟨_, rfl⟩
  have gW : Grows w W := by rw [hW]; exact Grows.alloc _ _
  have HBX : Aside (∀ w5, Grows W w5 → w5.cell? ⟨w.heap.size, 0, none⟩ = some (.int .i64 D) ∧ w5.cell? ⟨w.heap.size, 1, none⟩ = some (.int .i64 M)) := fun w5 g5 =>
    ⟨cell_up g5.below (by rw [hW]; exact al_new _ _ _ rfl rfl), cell_up g5.below (by rw [hW]; exact al_new _ _ _ rfl rfl)⟩
  have HH : Aside (∀ i, i < l.length → ∃ b off, ao = some ⟨b, off, none⟩ ∧ ∀ w5, Grows W w5 → w5.cell? ⟨b, off + i * 2, none⟩ = some (.int .i64 (l.getD i (0, 0)).1) ∧ w5.cell? ⟨b, off + i * 2 + 1, none⟩ = some (.int .i64 (l.getD i (0, 0)).2)) := fun i hi => by
    obtain ⟨b, off, e, hc⟩ := hc3 (by omega)
    obtain ⟨g1, g2⟩ := av_get l i hi
    have e0 : l.getD i (0, 0) = l[i] := by simp [hi]
    refine ⟨b, off, e, fun w5 g5 => ⟨?_, ?_⟩⟩
    · rw [e0]; exact cell_up (gW.trans g5).below (hc _ _ g1)
    · rw [e0, Nat.add_assoc]; exact cell_up (gW.trans g5).below (hc _ _ g2)
  have HN : Hid (n = l.length) := hn
  have HGW : Hid (Grows w W) := gW
  have HW : Hid _ := hW
  have mixed : Try.prog.follows .mixedOrders = true := by kernel_rfl
  clear h hn hl hc3 gW hW
  by_cases h16 : (16 : Int) < (n : Int)
  · have HR : Hid (errB (decide (l.length ≤ 16) && fitsL D M l) = 1) := by show _ = _; rw [decide_eq_false (by have := HN.out; omega)]; rfl
    go_enter Try.func12, Try.ntmps12
    go_wp2_with fail
    rw [← HW.out]
    go_ret
    exact ⟨by rw [HR.out]; rfl, HGW.out⟩
  · go_enter Try.func12, Try.ntmps12
    go_wp2_with fail
    rw [← HW.out]
    go_loopg [5] n (fun kx vi wr => ∃ i : Nat, vi = .int .i64 i ∧ i ≤ n ∧ n - i ≤ kx ∧ Hid (∀ j, j < i → fitv D M (l.getD j (0, 0)).1 (l.getD j (0, 0)).2 = true) ∧ Hid (Grows W wr))
    case atStart => exact ⟨0, rfl, by omega, Nat.le_refl _, fun j hj => by omega, Grows.refl _⟩
    case round =>
      obtain ⟨i, rfl, hi, hkx, HJ, HG⟩ := hrel
      by_cases hlt : i < n
      · have hltz : (i : Int) < (n : Int) := by omega
        have hil : i < l.length := by have := HN.out; omega
        obtain ⟨b, off, rfl, hcell⟩ := HH.out i hil
        obtain ⟨q0, q1⟩ := hcell wr HG.out
        have HJT : Hid (fitv D M (l.getD i (0, 0)).1 (l.getD i (0, 0)).2 = true → ∀ j, j < i + 1 → fitv D M (l.getD j (0, 0)).1 (l.getD j (0, 0)).2 = true) := fun hh j hj => by
          by_cases e : j = i
          · subst e; exact hh
          · exact HJ.out j (by omega)
        have HJF : Hid (fitv D M (l.getD i (0, 0)).1 (l.getD i (0, 0)).2 = false → fitsL D M l = false) := fun hh => by
          unfold fitsL
          rw [List.all_eq_false]
          exact ⟨l[i], List.getElem_mem hil, by have e0 : l.getD i (0, 0) = l[i] := by simp [hil]
                                                rw [e0] at hh; simp [hh]⟩
        generalize (l.getD i (0, 0)).1 = k at *
        generalize (l.getD i (0, 0)).2 = c at *
        obtain ⟨z0, z1⟩ := HBX.out wr HG.out
        have z0' := fun nq os => cell_gr z0 nq os
        have z1' := fun nq os => cell_gr z1 nq os
        have y0' := fun nq os => cell_gr q0 nq os
        have y1' := fun nq os => cell_gr q1 nq os
        have kF : ∀ nq os, Calls Try.prog 26 #[.agg #[.int .i64 D, .int .i64 M], .agg #[.int .i64 k, .int .i64 c]] (grow (wr.drewN nq) os) fun e w' => e = .returned (.bool (fitv D M k c)) ∧ ∃ q os', w' = grow ((grow (wr.drewN nq) os).drewN q) os' := fun nq os => reffine_any _ D M k c
        generalize fitv D M k c = r at *
        clear hcell z0 z1 q0 q1
        go_wp2_with fail
        refine wp_region_quiet_grown (by assumption) (by kernel_rfl) ?_
        repeat (first | go_big_quiet_step (first | (go_at_call 26; with_reducible refine Calls.grown_of (kF _ _))) | quiet_step (fail))
        refine wpQuiet_nil ?_
        intro Y hw'
        obtain ⟨⟨nq, osq⟩, hw''⟩ := hw'
        have HGY : Hid (Grows W Y) := HG.out.trans ⟨nq, osq, hw''⟩
        clear hw'' kF
        cases r with
        | true =>
          have HJ2 : Hid _ := HJT.out rfl
          go_wp2_with fail
          go_roundg (n - (i + 1))
          case measure => omega
          case rel => exact ⟨i + 1, by go_num, by omega, Nat.le_refl _, HJ2.out, HGY.out⟩
        | false =>
          have HR : Hid (errB (decide (l.length ≤ 16) && fitsL D M l) = 1) := by show _ = _; rw [HJF.out rfl, Bool.and_false]; rfl
          go_wp2_with fail
          go_ret
          exact ⟨by rw [HR.out]; rfl, HGW.out.trans HGY.out⟩
      · have hltz : ¬ (i : Int) < (n : Int) := by omega
        have hall : fitsL D M l = true := by
          unfold fitsL
          rw [List.all_eq_true]
          intro a ha
          obtain ⟨j, hj, rfl⟩ := List.getElem_of_mem ha
          have := HJ.out j (by have := HN.out; omega)
          have e0 : l.getD j (0, 0) = l[j] := by simp [hj]
          rw [e0] at this; exact this
        have HR : Hid (errB (decide (l.length ≤ 16) && fitsL D M l) = 0) := by show _ = _; rw [hall, decide_eq_true (by have := HN.out; omega)]; rfl
        clear hall
        go_wp2_with fail
        go_ret
        exact ⟨by rw [HR.out]; rfl, HGW.out.trans HG.out⟩
end Go.Proofs.Ytkoihniggoelnaa
