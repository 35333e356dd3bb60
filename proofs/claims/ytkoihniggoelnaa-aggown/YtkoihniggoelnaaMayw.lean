/- The walk of AggMay. -/
import Derived.Test.YtkoihniggoelnaaRgt
import Derived.Test.YtkoihniggoelnaaAwk1
namespace Go.Proofs.Ytkoihniggoelnaa
open Go.RowKit Go.Sort

theorem riseL_of : ∀ {l : List Str}, Ris l → riseL l = true
  | [], _ => rfl
  | [a], _ => rfl
  | a :: b :: l, h => by
    have h' := List.pairwise_cons.1 h
    rw [riseL, Bool.and_eq_true]
    exact ⟨by rw [bytesLess_eq]; exact decide_eq_true (h'.1 b (by simp)), riseL_of h'.2⟩
theorem may_gd {k c M : Int} {p : P0} (h : Gd k M p) (hk : 1 ≤ k ∧ k ≤ 5 ∧ 0 ≤ c ∧ c ≤ 1) : mayP 2 2 k c p = true := by
  have hf : fitv 2 2 k c = true := by
    unfold fitv
    split
    · rfl
    · split
      · exact decide_eq_true (by omega)
      · split
        · exact decide_eq_true (by omega)
        · omega
  unfold mayP
  rw [hf, Bool.true_and]
  unfold mayK
  by_cases h5 : k = 5
  · rw [if_pos h5]
    unfold mayT
    have h1 := h.v0 (by omega) (by omega) (by omega)
    have h2 := h.tl
    have h3 := riseL_of h.tr
    have h4 : longL p.2.2 = false := by
      unfold longL
      rw [List.any_eq_false]
      intro x hx
      have := h.ts x hx
      simp; omega
    have h6 : (decide (0 < p.2.2.length) || (p.1 == 0)) = true := by
      by_cases hz : p.1 = 0
      · simp [hz]
      · simp [h.t1 h5 hz]
    rw [h6, h3, h4]
    simp [h1, h2]
  · rw [if_neg h5]
    have ht := h.t0 h5
    by_cases h2 : k = 2 ∨ k = 3 ∨ k = 4
    · rw [if_pos h2, ht]
      by_cases hz : p.1 = 0
      · have := h.z hz
        simp [this]
      · simp [hz]
    · rw [if_neg h2, ht]
      have := h.v0 (by omega) (by omega) (by omega)
      simp [this]
theorem fe_aok {w : World} {base : Nat} {l : List En} (h : ∀ e ∈ l, FE w base e) : AOk l := fun e he => (h e he).ok
theorem fe_tot {w : World} {base : Nat} {l : List En} (h : ∀ e ∈ l, FE w base e) (hl : l.length ≤ 40) : tot l ≤ 45035996273704960 := by
  have := tot_le l 1125899906842624 (fun e he => Nat.le_of_lt (h e he).n)
  have h2 : (l.length : Int) * ((1125899906842624 : Nat) : Int) ≤ 40 * 1125899906842624 := by omega
  omega
set_option maxHeartbeats 8000000 in
theorem may_walk (w : World) (k c : Int) (v : Value) (raw : List En) (h : RdsM w v raw) (hk : In64 k) (hc : In64 c) :
    Calls Try.prog 7 #[.agg #[.int .i64 k, .int .i64 c], v] w fun e w' => e = .returned (.bool true) ∧ Below w.heap.size w w' := by
  obtain ⟨ao, n, cap, rfl⟩ := h.sl
  obtain ⟨W, hW⟩ : ∃ W, W = w.alloc (.cells #[.int .i64 k, .int .i64 c] 26) := ⟨_, rfl⟩
  have gW : Below w.heap.size w W := by rw [hW]; exact (Grows.alloc _ _).below
  have ha0 : W.cell? ⟨w.heap.size, 0, none⟩ = some (.int .i64 k) ∧ W.cell? ⟨w.heap.size, 1, none⟩ = some (.int .i64 c) := by rw [hW]; exact ⟨al_new _ _ _ rfl rfl, al_new _ _ _ rfl rfl⟩
  have kA := awake_any W
  have mixed : Try.prog.follows .mixedOrders = true := by kernel_rfl
  rw [hW] at kA
  have HW : Hid _ := hW
  have HG : Hid _ := And.intro gW (And.intro ha0 (h.below gW))
  clear h hW gW ha0
  go_enter Try.func7, Try.ntmps7
  go_wp2_with fail
  refine kA.mono ?_
  rintro e U ⟨rfl, bU⟩
  rw [← HW.out] at bU
  obtain ⟨gW, ha0, hR⟩ := HG.out
  have c0 := cell_up bU ha0.1
  have c1 := cell_up bU ha0.2
  have kR := right_any U k c _ raw (hR.below bU) hk hc
  have HU : Hid (Below w.heap.size w U) := gW.trans (bU.mono gW.size)
  clear kA bU gW ha0 hR HG HW
  go_wp2_with fail
  refine kR.mono ?_
  rintro e X ⟨k', c', v', l, rfl, hkc, rM, fe, hl, bX⟩
  obtain ⟨a1, n1, cp1, rfl⟩ := rM.sl
  obtain ⟨Y, hY⟩ : ∃ Y, Y = (X.alloc (.cells #[.int .i64 2, .int .i64 2] 23)).alloc (.cells #[.int .i64 k', .int .i64 c'] 26) := ⟨_, rfl⟩
  have gY : Below X.heap.size X Y := by rw [hY]; exact ((Grows.alloc _ _).trans (Grows.alloc _ _)).below
  have hs : Y.cell? ⟨X.heap.size, 0, none⟩ = some (.int .i64 2) ∧ Y.cell? ⟨X.heap.size, 1, none⟩ = some (.int .i64 2) := by
    rw [hY]; exact ⟨cell_up (Grows.alloc _ _).below (al_new _ _ _ rfl rfl), cell_up (Grows.alloc _ _).below (al_new _ _ _ rfl rfl)⟩
  have hb : Y.cell? ⟨X.heap.size + 1, 0, none⟩ = some (.int .i64 k') ∧ Y.cell? ⟨X.heap.size + 1, 1, none⟩ = some (.int .i64 c') := by
    rw [hY]; exact ⟨al_new _ _ _ (by simp) rfl, al_new _ _ _ (by simp) rfl⟩
  have htt := fe_tot fe hl
  have hok := fe_aok fe
  have kO := of_any Y k' c' _ l (rM.below gY) hok (by omega) (by omega)
  have HGd : Hid (mayP 2 2 k' c' (ofP k' c' l) = true ∧ mayP 2 2 k' c' (0, 0, []) = true) := ⟨may_gd (of_gd hok (by omega)) hkc, may_gd (Gd.unit k') hkc⟩
  generalize ofP k' c' l = J at kO HGd
  have HS : Hid _ := And.intro hs hb
  have HY : Hid (Below w.heap.size w Y ∧ Y = (X.alloc (.cells #[.int .i64 2, .int .i64 2] 23)).alloc (.cells #[.int .i64 k', .int .i64 c'] 26)) := ⟨(HU.out.trans (bX.mono HU.out.size)).trans (gY.mono (HU.out.trans (bX.mono HU.out.size)).size), hY⟩
  rw [hY] at kO
  unfold Gives at kO
  clear kR c0 c1 bX gY hs hb htt hok rM fe hl hY hkc
  go_wp2_with fail
  refine kO.mono ?_
  rintro e Z ⟨r, rfl, ok, new, hr, bZ⟩
  rw [← HY.out.2] at bZ
  obtain ⟨rn, rv, rtv, rts⟩ := r
  obtain ⟨a2, n2, c2, hv2⟩ := ok.rt.sl
  simp only at hv2
  subst hv2
  obtain ⟨V, hV⟩ : ∃ V, V = Z.alloc (.cells #[.int .u64 rn, .int .i64 rv, .slice a2 n2 c2] 30) := ⟨_, rfl⟩
  have gV : Below Z.heap.size Z V := by rw [hV]; exact (Grows.alloc _ _).below
  have bx : Box3 V Z.heap.size (.int .u64 rn) (.int .i64 rv) (.slice a2 n2 c2) := by rw [hV]; exact Box3.new _ _ _ _ _ _ rfl
  have bYV : Below Y.heap.size Y V := bZ.trans (gV.mono bZ.size)
  obtain ⟨⟨s0, s1⟩, b0, b1⟩ := HS.out
  have okV := ok.up gV
  have z0 := fun nq os => cell_gr (cell_up bYV s0) nq os
  have z1 := fun nq os => cell_gr (cell_up bYV s1) nq os
  have z2 := fun nq os => cell_gr (cell_up bYV b0) nq os
  have z3 := fun nq os => cell_gr (cell_up bYV b1) nq os
  have z4 := fun nq os => cell_gr bx.c0 nq os
  have z5 := fun nq os => cell_gr bx.c1 nq os
  have z6 := fun nq os => cell_gr bx.c2 nq os
  have m1 : mayP 2 2 k' c' (Pt.mk rn rv (.slice a2 n2 c2) rts).p0 = true := by rw [hr]; exact HGd.out.1
  have m2 : mayP 2 2 k' c' (Pt.mk 0 0 (.slice none 0 0) []).p0 = true := HGd.out.2
  have kM1 : ∀ nq os, Calls Try.prog 13 #[.agg #[.int .i64 2, .int .i64 2], .agg #[.int .i64 k', .int .i64 c'], .agg #[.int .u64 rn, .int .i64 rv, .slice a2 n2 c2]] (grow (V.drewN nq) os) fun e w' => e = .returned (.bool true) ∧ ∃ q os', w' = grow ((grow (V.drewN nq) os).drewN q) os' := fun nq os => by
    have := may_any (grow (V.drewN nq) os) 2 2 k' c' ⟨rn, rv, .slice a2 n2 c2, rts⟩ (okV.up (Grows.below ⟨nq, os, rfl⟩))
    rw [m1] at this
    exact this
  have kM2 : ∀ nq os, Calls Try.prog 13 #[.agg #[.int .i64 2, .int .i64 2], .agg #[.int .i64 k', .int .i64 c'], .agg #[.int .u64 0, .int .i64 0, .slice none 0 0]] (grow (V.drewN nq) os) fun e w' => e = .returned (.bool true) ∧ ∃ q os', w' = grow ((grow (V.drewN nq) os).drewN q) os' := fun nq os => by
    have := may_any (grow (V.drewN nq) os) 2 2 k' c' ⟨0, 0, .slice none 0 0, []⟩ ⟨Rds.nil _⟩
    rw [m2] at this
    exact this
  have kSt : ∀ nq os, Calls Try.prog 22 #[.agg #[.int .i64 k', .int .i64 c']] (grow (V.drewN nq) os) fun e w' => e = .returned (.agg #[.int .u64 0, .int .i64 0, .slice none 0 0]) ∧ ∃ q os', w' = grow ((grow (V.drewN nq) os).drewN q) os' := fun nq os => start_any (grow (V.drewN nq) os) k' c'
  have hfd : ∀ w : World, (Instr.field 30 (.agg #[.int .u64 0, .int .i64 0, .slice none 0 0]) 0).run Try.prog w = .ok (.int .u64 0) w := fun _ => by kernel_rfl
  have HV : Hid _ := hV
  have HB : Hid (Below w.heap.size w V) := HY.out.1.trans (bYV.mono HY.out.1.size)
  clear hV gV bx bYV s0 s1 b0 b1 okV HS ok new hr bZ HGd kO m1 m2 HY
  go_wp2_with fail
  rw [← HV.out]
  refine wp_region_quiet_grown (by assumption) (by kernel_rfl) ?_
  repeat (go_big_quiet_step (first | (go_at_call 13; with_reducible refine Calls.grown_of (kM1 _ _)) | (go_at_call 13; with_reducible refine Calls.grown_of (kM2 _ _)) | (go_at_call 22; with_reducible refine Calls.grown_of (kSt _ _))))
  refine wpQuiet_nil ?_
  intro T hw'
  obtain ⟨⟨nq, osq⟩, hw''⟩ := hw'
  have HBY : Hid (Below w.heap.size w T) := HB.out.trans ((Grows.below ⟨nq, osq, hw''⟩).mono HB.out.size)
  clear hw'' kM1 kM2 kSt
  go_wp2_with fail
  go_ret
  exact ⟨by first | rfl | simp, HBY.out⟩
end Go.Proofs.Ytkoihniggoelnaa
