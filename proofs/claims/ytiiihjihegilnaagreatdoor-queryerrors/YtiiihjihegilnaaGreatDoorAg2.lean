/- What the texts of agg hold, over this program's numbers. -/
import Derived.Test.YtiiihjihegilnaaGreatDoorAg1
namespace Go.Proofs.YtiiihjihegilnaaGreatDoor.Ag
open Go.RowKit Go.Sort

/-- A fact as it lies in memory: its time, the values of its two slices, and what these read as. -/
structure Fc where
  t : Int
  dv : Value
  mv : Value
  ds : List Str
  ms : List Int
def Fc.cells (f : Fc) : List Value := [.int .i64 f.t, f.dv, f.mv]
theorem never_any (w : World) (D M c : Int) : Calls Tryz.prog 78 #[.agg #[.int .i64 D, .int .i64 M], .int .i64 c] w fun e w' => e = .returned (.bool false) ∧ Grows w w' := by
  go_enter Tryz.func78, Tryz.ntmps78
  go_wp2_with fail
  go_ret
  exact ⟨rfl, Grows.alloc _ _⟩
theorem always_any (w : World) (D M c : Int) : Calls Tryz.prog 83 #[.agg #[.int .i64 D, .int .i64 M], .int .i64 c] w fun e w' => e = .returned (.bool true) ∧ Grows w w' := by
  go_enter Tryz.func83, Tryz.ntmps83
  go_wp2_with fail
  go_ret
  exact ⟨rfl, Grows.alloc _ _⟩
theorem isMeasure_any (w : World) (D M c : Int) : Calls Tryz.prog 85 #[.agg #[.int .i64 D, .int .i64 M], .int .i64 c] w fun e w' => e = .returned (.bool (decide (0 ≤ c ∧ c < M))) ∧ Grows w w' := by
  have kI := within_any (w.alloc (.cells #[.int .i64 D, .int .i64 M] 23)) c M
  generalize decide (0 ≤ c ∧ c < M) = r at *
  go_enter Tryz.func85, Tryz.ntmps85
  go_wp2_with fail
  refine kI.mono ?_
  rintro e w2 ⟨rfl, rfl⟩
  go_wp2_with fail
  go_ret
  exact ⟨rfl, Grows.alloc _ _⟩
theorem isDimension_any (w : World) (D M c : Int) : Calls Tryz.prog 92 #[.agg #[.int .i64 D, .int .i64 M], .int .i64 c] w fun e w' => e = .returned (.bool (decide (0 ≤ c ∧ c < D))) ∧ Grows w w' := by
  have kI := within_any (w.alloc (.cells #[.int .i64 D, .int .i64 M] 23)) c D
  generalize decide (0 ≤ c ∧ c < D) = r at *
  go_enter Tryz.func92, Tryz.ntmps92
  go_wp2_with fail
  refine kI.mono ?_
  rintro e w2 ⟨rfl, rfl⟩
  go_wp2_with fail
  go_ret
  exact ⟨rfl, Grows.alloc _ _⟩
/-- May an aggregator be, by a schema? -/
def fitv (D M k c : Int) : Bool :=
  if k = 1 then true else if k = 2 ∨ k = 3 ∨ k = 4 then decide (0 ≤ c ∧ c < M) else if k = 5 then decide (0 ≤ c ∧ c < D) else false
/-- Aggregators one behind the other. -/
def av (l : List (Int × Int)) : List Value := l.flatMap fun a => [.int .i64 a.1, .int .i64 a.2]
theorem av_get : ∀ (l : List (Int × Int)) (i : Nat) (hi : i < l.length), (av l)[i * 2]? = some (.int .i64 l[i].1) ∧ (av l)[i * 2 + 1]? = some (.int .i64 l[i].2)
  | a :: l, 0, _ => by simp [av]
  | a :: l, i + 1, hi => by
    have ih := av_get l i (by simpa using hi)
    simp only [av, List.flatMap_cons, List.getElem_cons_succ] at *
    rw [List.getElem?_append_right (by simp; omega), List.getElem?_append_right (by simp; omega)]
    rw [show (i + 1) * 2 - [Value.int IntKind.i64 a.fst, Value.int IntKind.i64 a.snd].length = i * 2 by simp; omega, show (i + 1) * 2 + 1 - [Value.int IntKind.i64 a.fst, Value.int IntKind.i64 a.snd].length = i * 2 + 1 by simp; omega]
    exact ih
def errB (b : Bool) : Int := if b then 0 else 1
def fitsL (D M : Int) (l : List (Int × Int)) : Bool := l.all fun a => fitv D M a.1 a.2
/-- The way of a kind asks so. -/
theorem way_fits (D M k c : Int) : ∃ f x1 x2 x3 x4 : Nat, (f = 83 ∨ f = 85 ∨ f = 92 ∨ f = 78) ∧ (∀ w, Calls Tryz.prog 62 #[.agg #[.int .i64 k, .int .i64 c]] w fun e w' => e = .returned (.agg #[fv f, fv x1, fv x2, fv x3, fv x4]) ∧ Grows w w') ∧
    ∀ w, Calls Tryz.prog f #[.agg #[.int .i64 D, .int .i64 M], .int .i64 c] w fun e w' => e = .returned (.bool (fitv D M k c)) ∧ Grows w w' := by
  unfold fitv
  by_cases h1 : k = 1
  · subst h1
    rw [if_pos rfl]
    exact ⟨_, _, _, _, _, .inl rfl, fun w => wayOf_1 w c, fun w => always_any w D M c⟩
  · rw [if_neg h1]
    by_cases h2 : k = 2
    · subst h2
      rw [if_pos (.inl rfl)]
      exact ⟨_, _, _, _, _, .inr (.inl rfl), fun w => wayOf_2 w c, fun w => isMeasure_any w D M c⟩
    · by_cases h3 : k = 3
      · subst h3
        rw [if_pos (.inr (.inl rfl))]
        exact ⟨_, _, _, _, _, .inr (.inl rfl), fun w => wayOf_3 w c, fun w => isMeasure_any w D M c⟩
      · by_cases h4 : k = 4
        · subst h4
          rw [if_pos (.inr (.inr rfl))]
          exact ⟨_, _, _, _, _, .inr (.inl rfl), fun w => wayOf_4 w c, fun w => isMeasure_any w D M c⟩
        · rw [if_neg (fun h => h.elim h2 fun h => h.elim h3 h4)]
          by_cases h5 : k = 5
          · subst h5
            rw [if_pos rfl]
            exact ⟨_, _, _, _, _, .inr (.inr (.inl rfl)), fun w => wayOf_5 w c, fun w => isDimension_any w D M c⟩
          · rw [if_neg h5]
            by_cases h0 : k = 0
            · subst h0
              exact ⟨_, _, _, _, _, .inr (.inr (.inr rfl)), fun w => wayOf_0 w c, fun w => never_any w D M c⟩
            · exact ⟨_, _, _, _, _, .inr (.inr (.inr rfl)), fun w => wayOf_no w k (by omega) c, fun w => never_any w D M c⟩

set_option maxHeartbeats 8000000 in
theorem check_any (w : World) (D M : Int) (v : Value) (l : List (Int × Int)) (h : RdsK 2 w v l.length (av l)) :
    Calls Tryz.prog 55 #[.agg #[.int .i64 D, .int .i64 M], v] w fun e w' => e = .returned (.int .i64 (errB (decide (l.length ≤ 16) && fitsL D M l))) ∧ Grows w w' := by
  obtain ⟨ao, n, cap, rfl⟩ : ∃ ao n cap, v = .slice ao n cap := by obtain ⟨ao, cap, rfl, _⟩ := h; exact ⟨_, _, _, rfl⟩
  obtain ⟨hn, hl, hc1, hc2, hc3, -⟩ := h.cells (by decide)
  unfold maxLen at hc2
  obtain ⟨W, hW⟩ : ∃ W, W = w.alloc (.cells #[.int .i64 D, .int .i64 M] 23) := ⟨_, rfl⟩
  have gW : Grows w W := by rw [hW]; exact Grows.alloc _ _
  have HBX : Aside (∀ w5, Grows W w5 → w5.cell? ⟨w.heap.size, 0, none⟩ = some (.int .i64 D) ∧ w5.cell? ⟨w.heap.size, 1, none⟩ = some (.int .i64 M)) := fun w5 g5 =>
    ⟨cell_up g5.below (by rw [hW]; exact al_new _ _ _ rfl rfl), cell_up g5.below (by rw [hW]; exact al_new _ _ _ rfl rfl)⟩
  have HH : Aside (∀ i, i < l.length → ∃ b off, ao = some ⟨b, off, none⟩ ∧ ∀ w5, Grows W w5 → w5.cell? ⟨b, off + i * 2, none⟩ = some (.int .i64 (l.getD i (0, 0)).1) ∧ w5.cell? ⟨b, off + i * 2 + 1, none⟩ = some (.int .i64 (l.getD i (0, 0)).2)) := fun i hi => by
    obtain ⟨b, off, e, hc⟩ := hc3 (by omega)
    obtain ⟨g1, g2⟩ := av_get l i hi
    have e0 : l.getD i (0, 0) = l[i] := by simp [hi]
    refine ⟨b, off, e, fun w5 g5 => ⟨?_, ?_⟩⟩
    · rw [e0]; exact cell_up (gW.trans g5).below (hc _ _ g1)
    · rw [e0, Nat.add_assoc]; exact cell_up (gW.trans g5).below (hc _ _ g2)
  have HN : Hid (n = l.length) := hn
  have HGW : Hid (Grows w W) := gW
  have HW : Hid _ := hW
  have mixed : Tryz.prog.follows .mixedOrders = true := by kernel_rfl
  clear h hn hl hc3 gW hW
  by_cases h16 : (16 : Int) < (n : Int)
  · have HR : Hid (errB (decide (l.length ≤ 16) && fitsL D M l) = 1) := by show _ = _; rw [decide_eq_false (by have := HN.out; omega)]; rfl
    go_enter Tryz.func55, Tryz.ntmps55
    go_wp2_with fail
    rw [← HW.out]
    go_ret
    exact ⟨by rw [HR.out]; rfl, HGW.out⟩
  · go_enter Tryz.func55, Tryz.ntmps55
    go_wp2_with fail
    rw [← HW.out]
    go_loopg [12] n (fun kx vi wr => ∃ i : Nat, vi = .int .i64 i ∧ i ≤ n ∧ n - i ≤ kx ∧ Hid (∀ j, j < i → fitv D M (l.getD j (0, 0)).1 (l.getD j (0, 0)).2 = true) ∧ Hid (Grows W wr))
    case atStart => exact ⟨0, rfl, by omega, Nat.le_refl _, fun j hj => by omega, Grows.refl _⟩
    case round =>
      obtain ⟨i, rfl, hi, hkx, HJ, HG⟩ := hrel
      by_cases hlt : i < n
      · have hltz : (i : Int) < (n : Int) := by omega
        have hil : i < l.length := by have := HN.out; omega
        obtain ⟨b, off, rfl, hcell⟩ := HH.out i hil
        obtain ⟨q0, q1⟩ := hcell wr HG.out
        have HJT : Hid (fitv D M (l.getD i (0, 0)).1 (l.getD i (0, 0)).2 = true → ∀ j, j < i + 1 → fitv D M (l.getD j (0, 0)).1 (l.getD j (0, 0)).2 = true) := fun hh j hj => by
          by_cases e : j = i
          · subst e; exact hh
          · exact HJ.out j (by omega)
        have HJF : Hid (fitv D M (l.getD i (0, 0)).1 (l.getD i (0, 0)).2 = false → fitsL D M l = false) := fun hh => by
          unfold fitsL
          rw [List.all_eq_false]
          exact ⟨l[i], List.getElem_mem hil, by have e0 : l.getD i (0, 0) = l[i] := by simp [hil]
                                                rw [e0] at hh; simp [hh]⟩
        generalize (l.getD i (0, 0)).1 = k at *
        generalize (l.getD i (0, 0)).2 = c at *
        obtain ⟨V, hV⟩ : ∃ V, V = wr.alloc (.cells #[.int .i64 k, .int .i64 c] 67) := ⟨_, rfl⟩
        have gV : Grows wr V := by rw [hV]; exact Grows.alloc _ _
        have gWV := HG.out.trans gV
        obtain ⟨z0, z1⟩ := HBX.out V gWV
        have y0 : V.cell? ⟨wr.heap.size, 0, none⟩ = some (.int .i64 k) := by rw [hV]; exact al_new _ _ _ rfl rfl
        have y1 : V.cell? ⟨wr.heap.size, 1, none⟩ = some (.int .i64 c) := by rw [hV]; exact al_new _ _ _ rfl rfl
        have z0' := fun nq os => cell_gr z0 nq os
        have z1' := fun nq os => cell_gr z1 nq os
        have y0' := fun nq os => cell_gr y0 nq os
        have y1' := fun nq os => cell_gr y1 nq os
        obtain ⟨f, x1, x2, x3, x4, hf, kW0, kF0⟩ := way_fits D M k c
        have kW : ∀ nq os, Calls Tryz.prog 62 #[.agg #[.int .i64 k, .int .i64 c]] (grow (V.drewN nq) os) fun e w' => e = .returned (.agg #[fv f, fv x1, fv x2, fv x3, fv x4]) ∧ ∃ q os', w' = grow ((grow (V.drewN nq) os).drewN q) os' := fun nq os => kW0 _
        have kF : ∀ nq os, Calls Tryz.prog f #[.agg #[.int .i64 D, .int .i64 M], .int .i64 c] (grow (V.drewN nq) os) fun e w' => e = .returned (.bool (fitv D M k c)) ∧ ∃ q os', w' = grow ((grow (V.drewN nq) os).drewN q) os' := fun nq os => kF0 _
        simp only [fv] at kW
        have hfd : ∀ w : World, (Instr.field 127 (.agg #[.func (.func f) #[] #[], .func (.func x1) #[] #[], .func (.func x2) #[] #[], .func (.func x3) #[] #[], .func (.func x4) #[] #[]]) 0).run Tryz.prog w = .ok (.func (.func f) #[] #[]) w := fun _ => by kernel_rfl
        have HV : Hid _ := hV
        have HGV : Hid (Grows W V) := gWV
        generalize fitv D M k c = r at *
        clear hcell gV gWV z0 z1 y0 y1 kW0 kF0 hV
        rcases hf with rfl | rfl | rfl | rfl
        · go_wp2_with fail
          rw [← HV.out]
          refine wp_region_quiet_grown (by assumption) (by kernel_rfl) ?_
          repeat (first | go_big_quiet_step (first | (go_at_call 62; with_reducible refine Calls.grown_of (kW _ _)) | (go_at_call 83; with_reducible refine Calls.grown_of (kF _ _))) | quiet_step (fail))
          refine wpQuiet_nil ?_
          intro _ hw'
          obtain ⟨⟨nq, osq⟩, hw''⟩ := hw'
          subst hw''
          cases r with
          | true =>
            have HJ2 : Hid _ := HJT.out rfl
            go_wp2_with fail
            go_roundg (n - (i + 1))
            case measure => omega
            case rel => exact ⟨i + 1, by go_num, by omega, Nat.le_refl _, HJ2.out, HGV.out.trans ⟨nq, osq, rfl⟩⟩
          | false =>
            have HJ2 : Hid (fitsL D M l = false) := HJF.out rfl
            go_wp2_with fail
            go_ret
            refine ⟨?_, (HGW.out.trans HGV.out).trans ⟨nq, osq, rfl⟩⟩
            rw [HJ2.out, Bool.and_false]; rfl
        · go_wp2_with fail
          rw [← HV.out]
          refine wp_region_quiet_grown (by assumption) (by kernel_rfl) ?_
          repeat (first | go_big_quiet_step (first | (go_at_call 62; with_reducible refine Calls.grown_of (kW _ _)) | (go_at_call 85; with_reducible refine Calls.grown_of (kF _ _))) | quiet_step (fail))
          refine wpQuiet_nil ?_
          intro _ hw'
          obtain ⟨⟨nq, osq⟩, hw''⟩ := hw'
          subst hw''
          cases r with
          | true =>
            have HJ2 : Hid _ := HJT.out rfl
            go_wp2_with fail
            go_roundg (n - (i + 1))
            case measure => omega
            case rel => exact ⟨i + 1, by go_num, by omega, Nat.le_refl _, HJ2.out, HGV.out.trans ⟨nq, osq, rfl⟩⟩
          | false =>
            have HJ2 : Hid (fitsL D M l = false) := HJF.out rfl
            go_wp2_with fail
            go_ret
            refine ⟨?_, (HGW.out.trans HGV.out).trans ⟨nq, osq, rfl⟩⟩
            rw [HJ2.out, Bool.and_false]; rfl
        · go_wp2_with fail
          rw [← HV.out]
          refine wp_region_quiet_grown (by assumption) (by kernel_rfl) ?_
          repeat (first | go_big_quiet_step (first | (go_at_call 62; with_reducible refine Calls.grown_of (kW _ _)) | (go_at_call 92; with_reducible refine Calls.grown_of (kF _ _))) | quiet_step (fail))
          refine wpQuiet_nil ?_
          intro _ hw'
          obtain ⟨⟨nq, osq⟩, hw''⟩ := hw'
          subst hw''
          cases r with
          | true =>
            have HJ2 : Hid _ := HJT.out rfl
            go_wp2_with fail
            go_roundg (n - (i + 1))
            case measure => omega
            case rel => exact ⟨i + 1, by go_num, by omega, Nat.le_refl _, HJ2.out, HGV.out.trans ⟨nq, osq, rfl⟩⟩
          | false =>
            have HJ2 : Hid (fitsL D M l = false) := HJF.out rfl
            go_wp2_with fail
            go_ret
            refine ⟨?_, (HGW.out.trans HGV.out).trans ⟨nq, osq, rfl⟩⟩
            rw [HJ2.out, Bool.and_false]; rfl
        · go_wp2_with fail
          rw [← HV.out]
          refine wp_region_quiet_grown (by assumption) (by kernel_rfl) ?_
          repeat (first | go_big_quiet_step (first | (go_at_call 62; with_reducible refine Calls.grown_of (kW _ _)) | (go_at_call 78; with_reducible refine Calls.grown_of (kF _ _))) | quiet_step (fail))
          refine wpQuiet_nil ?_
          intro _ hw'
          obtain ⟨⟨nq, osq⟩, hw''⟩ := hw'
          subst hw''
          cases r with
          | true =>
            have HJ2 : Hid _ := HJT.out rfl
            go_wp2_with fail
            go_roundg (n - (i + 1))
            case measure => omega
            case rel => exact ⟨i + 1, by go_num, by omega, Nat.le_refl _, HJ2.out, HGV.out.trans ⟨nq, osq, rfl⟩⟩
          | false =>
            have HJ2 : Hid (fitsL D M l = false) := HJF.out rfl
            go_wp2_with fail
            go_ret
            refine ⟨?_, (HGW.out.trans HGV.out).trans ⟨nq, osq, rfl⟩⟩
            rw [HJ2.out, Bool.and_false]; rfl
      · have hltz : ¬ (i : Int) < (n : Int) := by omega
        have HR : Hid (errB (decide (l.length ≤ 16) && fitsL D M l) = 0) := by
          have hall : fitsL D M l = true := by
            unfold fitsL
            rw [List.all_eq_true]
            intro a ha
            obtain ⟨j, hj, rfl⟩ := List.mem_iff_getElem.1 ha
            have := HJ.out j (by have := HN.out; omega)
            have e0 : l.getD j (0, 0) = l[j] := by simp [hj]
            rwa [e0] at this
          show _ = _
          rw [hall, decide_eq_true (by have := HN.out; omega)]; rfl
        go_wp2_with fail
        go_ret
        exact ⟨by rw [HR.out]; rfl, HGW.out.trans HG.out⟩
set_option maxHeartbeats 1600000 in
theorem reffine_any (w : World) (D M k c : Int) : Calls Tryz.prog 19 #[.agg #[.int .i64 D, .int .i64 M], .agg #[.int .i64 k, .int .i64 c]] w fun e w' => e = .returned (.bool (fitv D M k c)) ∧ Grows w w' := by
  unfold fitv
  by_cases h1 : k = 1
  · subst h1
    rw [if_pos rfl]
    go_enter Tryz.func19, Tryz.ntmps19
    go_wp2_with fail
    go_ret
    exact ⟨rfl, (Grows.alloc _ _).trans (Grows.alloc _ _)⟩
  · rw [if_neg h1]
    have b1 : (k == 1) = false := by simp [h1]
    by_cases h2 : k = 2 ∨ k = 3 ∨ k = 4
    · rw [if_pos h2]
      by_cases hc : 0 ≤ c
      · have e : decide (0 ≤ c ∧ c < M) = decide (c < M) := by simp [hc]
        rw [e]
        rcases h2 with rfl | rfl | rfl
        all_goals
          go_enter Tryz.func19, Tryz.ntmps19
          go_wp2_with fail
          go_ret
          exact ⟨rfl, (Grows.alloc _ _).trans (Grows.alloc _ _)⟩
      · have e : decide (0 ≤ c ∧ c < M) = false := by simp [hc]
        rw [e]
        rcases h2 with rfl | rfl | rfl
        all_goals
          go_enter Tryz.func19, Tryz.ntmps19
          go_wp2_with fail
          go_ret
          exact ⟨rfl, (Grows.alloc _ _).trans (Grows.alloc _ _)⟩
    · rw [if_neg h2]
      have b2 : (k == 2) = false := by simp; omega
      have b3 : (k == 3) = false := by simp; omega
      have b4 : (k == 4) = false := by simp; omega
      by_cases h5 : k = 5
      · subst h5
        rw [if_pos rfl]
        by_cases hc : 0 ≤ c
        · have e : decide (0 ≤ c ∧ c < D) = decide (c < D) := by simp [hc]
          rw [e]
          clear h1 h2 b1 b2 b3 b4
          go_enter Tryz.func19, Tryz.ntmps19
          go_wp2_with fail
          go_ret
          exact ⟨rfl, (Grows.alloc _ _).trans (Grows.alloc _ _)⟩
        · have e : decide (0 ≤ c ∧ c < D) = false := by simp [hc]
          rw [e]
          clear h1 h2 b1 b2 b3 b4
          go_enter Tryz.func19, Tryz.ntmps19
          go_wp2_with fail
          go_ret
          exact ⟨rfl, (Grows.alloc _ _).trans (Grows.alloc _ _)⟩
      · rw [if_neg h5]
        have b5 : (k == 5) = false := by simp [h5]
        clear h1 h2 h5
        go_enter Tryz.func19, Tryz.ntmps19
        go_wp2_with fail
        go_ret
        exact ⟨rfl, (Grows.alloc _ _).trans (Grows.alloc _ _)⟩

end Go.Proofs.YtiiihjihegilnaaGreatDoor.Ag
