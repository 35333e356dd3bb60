/- The contract of holds. -/
import Derived.Test.YtlfkhinmncbkcaaHold
namespace Go.Proofs.Ytlfkhinmncbkcaa
open Go.RowKit Go.Sort

set_option maxHeartbeats 8000000 in
theorem holds_any (X : Fc) : ∀ (N : Nat) (t : Tr), SizeOf.sizeOf t < N → ∀ w, t.Ok w → X.Ok w →
    Calls Try.prog 28 #[.agg #[.int .i64 t.k, .int .i64 t.d, t.tv, .int .i64 t.lo, .int .i64 t.hi, t.kv], .agg #[.int .i64 X.t, X.dv, X.mv]] w fun e w' => e = .returned (.bool (t.hold X)) ∧ Grows w w' := by
  intro N
  induction N with
  | zero => intro t ht; omega
  | succ N ih =>
    intro t ht w h hX
    obtain ⟨at', nt, ct, ak, nk, ck, e1, e2, -, -, -, -⟩ := h.lens
    obtain ⟨W, hW⟩ : ∃ W, W = (w.alloc (.cells #[.int .i64 t.k, .int .i64 t.d, t.tv, .int .i64 t.lo, .int .i64 t.hi, t.kv] 27)).alloc (.cells #[.int .i64 X.t, X.dv, X.mv] 35) := ⟨_, rfl⟩
    have gW : Grows w W := by rw [hW]; exact (Grows.alloc _ _).trans (Grows.alloc _ _)
    have zW : W.heap.size = w.heap.size + 2 := by rw [hW]; simp
    have okW := h.up gW.below
    have xW := hX.up gW.below
    have y : ∀ c u, (#[Value.int .i64 t.k, .int .i64 t.d, t.tv, .int .i64 t.lo, .int .i64 t.hi, t.kv])[c]? = some u → W.cell? ⟨w.heap.size, c, none⟩ = some u := fun c u hc => by
      rw [hW]
      refine cell_alloc_sl _ ?_
      simpa using hc
    have z : ∀ c u, (#[Value.int .i64 X.t, X.dv, X.mv])[c]? = some u → W.cell? ⟨w.heap.size + 1, c, none⟩ = some u := fun c u hc => by
      rw [hW]
      have hs : w.heap.size + 1 = (w.alloc (.cells #[.int .i64 t.k, .int .i64 t.d, t.tv, .int .i64 t.lo, .int .i64 t.hi, t.kv] 27)).heap.size := by simp
      rw [hs]
      simpa using hc
    have kK : ∀ nq os, Calls Try.prog 33 #[.agg #[.int .i64 t.k, .int .i64 t.d, t.tv, .int .i64 t.lo, .int .i64 t.hi, t.kv]] (grow (W.drewN nq) os) fun e w' => e = .returned t.kidv ∧ ∃ q os', w' = grow ((grow (W.drewN nq) os).drewN q) os' := fun nq os =>
      kids_any _ t (okW.up (below_grown_sl _ W nq os (Nat.le_refl _)))
    have kO : ∀ a nq os, Calls Try.prog 36 #[.bool a, .agg #[.int .i64 X.t, X.dv, X.mv], t.kidv] (grow (W.drewN nq) os) fun e w' => e = .returned (.bool (anyB a (holdL X t.kids))) ∧ ∃ q os', w' = grow ((grow (W.drewN nq) os).drewN q) os' := fun a nq os =>
      one_of X N ih a t.kids (fun c hc => by have := kids_lt hc; omega) _ _ (okW.up (below_grown_sl _ W nq os (Nat.le_refl _))).kids (xW.up (below_grown_sl _ W nq os (Nat.le_refl _)))
    obtain ⟨a5, n5, c5, e5⟩ := okW.kids.sl
    obtain ⟨ad, nd, cd, am, nm, cm, f1, f2, hnd, hnm, hd1, hd2, hm1, hm2, hd3, hm3⟩ := xW.lens
    unfold maxLen at hd2 hm2
    have y0' := fun nq os => cell_gr (y 0 _ rfl) nq os
    have y1' := fun nq os => cell_gr (y 1 _ rfl) nq os
    have y2' := fun nq os => cell_gr (y 2 _ rfl) nq os
    have y3' := fun nq os => cell_gr (y 3 _ rfl) nq os
    have y4' := fun nq os => cell_gr (y 4 _ rfl) nq os
    have y5' := fun nq os => cell_gr (y 5 _ rfl) nq os
    have y0 := y 0 _ rfl
    have z0' := fun nq os => cell_gr (z 0 _ rfl) nq os
    have z1' := fun nq os => cell_gr (z 1 _ rfl) nq os
    have z2' := fun nq os => cell_gr (z 2 _ rfl) nq os
    have hA := t.hold_eq X
    unfold holdE at hA
    have HG : Hid (Grows w W) := gW
    have HW : Hid _ := hW
    have HO : Hid (t.Ok W) := okW
    have HM3 : Aside _ := hm3
    have HD3 : Aside _ := hd3
    have HND : Hid (nd = X.ds.length) := hnd
    have HNM : Hid (nm = X.ms.length) := hnm
    have HE : Hid (t.tv = .slice at' nt ct ∧ t.kv = .slice ak nk ck) := ⟨e1, e2⟩
    rw [← hnd, ← hnm] at hA
    rw [e5, f1, f2] at kO
    rw [e5, e1, e2] at kK
    rw [e1, e2, f1, f2] at HW
    rw [e1] at y2'
    rw [e2] at y5'
    rw [f1] at z1'
    rw [f2] at z2'
    rw [hW, e1, e2, f1, f2] at y0
    have mixed : Try.prog.follows .mixedOrders = true := by kernel_rfl
    rw [e1, e2, f1, f2]
    clear h ht hX ih gW hW zW okW xW y z e1 e2 e5 f1 f2 hm3 hd3 hnd hnm
    by_cases h1 : t.k = 1
    · rw [if_pos (.inl h1)] at hA
      have kO := kO false
      have hb : (t.k == 1) = true := by simp [h1]
      generalize anyB false (holdL X t.kids) = r at *
      have HA : Hid _ := hA
      clear hA h1
      go_enter Try.func28, Try.ntmps28
      go_wp2_with fail
      rw [← HW.out]
      refine wp_region_quiet_grown (by assumption) (by kernel_rfl) ?_
      repeat (go_big_quiet_step (first | (go_at_call 33; refine Calls.grown_of (kK _ _)) | (go_at_call 36; refine Calls.grown_of (kO _ _))))
      refine wpQuiet_nil ?_
      intro _ hw'
      obtain ⟨⟨nq, osq⟩, hw''⟩ := hw'
      subst hw''
      go_wp2_with fail
      go_ret
      exact ⟨by rw [HA.out]; rfl, HG.out.trans ⟨nq, osq, rfl⟩⟩
    · have c1 : (t.k == 1) = false := by simp; omega
      by_cases h3 : t.k = 3
      · rw [if_pos (.inr h3)] at hA
        have kO := kO false
        have hb : (t.k == 3) = true := by simp [h3]
        generalize anyB false (holdL X t.kids) = r at *
        have HA : Hid _ := hA
        clear hA h1 h3
        go_enter Try.func28, Try.ntmps28
        go_wp2_with fail
        rw [← HW.out]
        refine wp_region_quiet_grown (by assumption) (by kernel_rfl) ?_
        repeat (go_big_quiet_step (first | (go_at_call 33; refine Calls.grown_of (kK _ _)) | (go_at_call 36; refine Calls.grown_of (kO _ _))))
        refine wpQuiet_nil ?_
        intro _ hw'
        obtain ⟨⟨nq, osq⟩, hw''⟩ := hw'
        subst hw''
        go_wp2_with fail
        go_ret
        exact ⟨by rw [HA.out]; rfl, HG.out.trans ⟨nq, osq, rfl⟩⟩
      · have c3 : (t.k == 3) = false := by simp; omega
        rw [if_neg (fun h => h.elim h1 h3)] at hA
        by_cases h2 : t.k = 2
        · rw [if_pos h2] at hA
          have kO := kO false
          have hb : (t.k == 2) = true := by simp [h2]
          generalize anyB false (holdL X t.kids) = r at *
          have HA : Hid _ := hA
          clear hA h1 h3 h2
          go_enter Try.func28, Try.ntmps28
          go_wp2_with fail
          rw [← HW.out]
          refine wp_region_quiet_grown (by assumption) (by kernel_rfl) ?_
          repeat (go_big_quiet_step (first | (go_at_call 33; refine Calls.grown_of (kK _ _)) | (go_at_call 36; refine Calls.grown_of (kO _ _))))
          refine wpQuiet_nil ?_
          intro _ hw'
          obtain ⟨⟨nq, osq⟩, hw''⟩ := hw'
          subst hw''
          go_wp2_with fail
          go_ret
          exact ⟨by rw [HA.out]; rfl, HG.out.trans ⟨nq, osq, rfl⟩⟩
        · have c2 : (t.k == 2) = false := by simp; omega
          rw [if_neg h2] at hA
          by_cases h4 : t.k = 4
          · rw [if_pos h4] at hA
            have kO := kO true
            have hb : (t.k == 4) = true := by simp [h4]
            generalize anyB true (holdL X t.kids) = r at *
            have HA : Hid _ := hA
            clear hA h1 h3 h2 h4
            go_enter Try.func28, Try.ntmps28
            go_wp2_with fail
            rw [← HW.out]
            refine wp_region_quiet_grown (by assumption) (by kernel_rfl) ?_
            repeat (go_big_quiet_step (first | (go_at_call 33; refine Calls.grown_of (kK _ _)) | (go_at_call 36; refine Calls.grown_of (kO _ _))))
            refine wpQuiet_nil ?_
            intro _ hw'
            obtain ⟨⟨nq, osq⟩, hw''⟩ := hw'
            subst hw''
            go_wp2_with fail
            go_ret
            exact ⟨by rw [HA.out]; rfl, HG.out.trans ⟨nq, osq, rfl⟩⟩
          · have c4 : (t.k == 4) = false := by simp; omega
            rw [if_neg h4] at hA
            clear kK kO
            by_cases h8 : t.k = 8
            · rw [if_pos h8] at hA
              have hb : (t.k == 8) = true := by simp [h8]
              have kW : ∀ nq os, Calls Try.prog 37 #[.int .i64 t.d, .int .i64 (nm : Int)] (grow (W.drewN nq) os) fun e w' => e = .returned (.bool (decide (0 ≤ t.d ∧ t.d < (nm : Int)))) ∧ ∃ q os', w' = grow ((grow (W.drewN nq) os).drewN q) os' := fun nq os =>
                (within_any _ _ _).mono fun e w' hh => ⟨hh.1, by rw [hh.2]; exact Grows.refl _⟩
              clear h1 h3 h2 h4 h8
              by_cases hin : 0 ≤ t.d ∧ t.d < (nm : Int)
              · rw [decide_eq_true hin] at hA kW
                obtain ⟨i, hi⟩ : ∃ i : Nat, t.d = (i : Int) := ⟨t.d.toNat, by omega⟩
                have hil : i < X.ms.length := by have := HNM.out; omega
                obtain ⟨b, off, rfl, hcell⟩ := HM3.out (by omega)
                have q' := fun nq os => cell_gr (hcell i hil) nq os
                have htn : t.d.toNat = i := by omega
                rw [htn] at hA
                have hiz : (i : Int) < (nm : Int) := by omega
                rw [hi] at y1' kW HW y0 ⊢
                generalize X.ms.getD i 0 = m at *
                clear hin hi htn hil hcell
                cases hlo : decide (t.lo ≤ m) with
                | false =>
                  rw [hlo] at hA
                  have HA : Hid _ := hA
                  clear hA
                  go_enter Try.func28, Try.ntmps28
                  go_wp2_with fail
                  rw [← HW.out]
                  refine wp_region_quiet_grown (by assumption) (by kernel_rfl) ?_
                  repeat (go_big_quiet_step (first | (go_at_call 37; refine Calls.grown_of (kW _ _))))
                  refine wpQuiet_nil ?_
                  intro _ hw'
                  obtain ⟨⟨nq, osq⟩, hw''⟩ := hw'
                  subst hw''
                  go_wp2_with fail
                  go_ret
                  exact ⟨by rw [HA.out]; rfl, HG.out.trans ⟨nq, osq, rfl⟩⟩
                | true =>
                  rw [hlo] at hA
                  have HA : Hid _ := hA
                  clear hA
                  go_enter Try.func28, Try.ntmps28
                  go_wp2_with fail
                  rw [← HW.out]
                  refine wp_region_quiet_grown (by assumption) (by kernel_rfl) ?_
                  repeat (go_big_quiet_step (first | (go_at_call 37; refine Calls.grown_of (kW _ _))))
                  refine wpQuiet_nil ?_
                  intro _ hw'
                  obtain ⟨⟨nq, osq⟩, hw''⟩ := hw'
                  subst hw''
                  go_wp2_with fail
                  go_ret
                  exact ⟨by rw [HA.out]; simp, HG.out.trans ⟨nq, osq, rfl⟩⟩
              · rw [decide_eq_false hin] at hA kW
                have HA : Hid _ := hA
                clear hA hin
                go_enter Try.func28, Try.ntmps28
                go_wp2_with fail
                rw [← HW.out]
                refine wp_region_quiet_grown (by assumption) (by kernel_rfl) ?_
                repeat (go_big_quiet_step (first | (go_at_call 37; refine Calls.grown_of (kW _ _))))
                refine wpQuiet_nil ?_
                intro _ hw'
                obtain ⟨⟨nq, osq⟩, hw''⟩ := hw'
                subst hw''
                go_wp2_with fail
                go_ret
                exact ⟨by rw [HA.out]; rfl, HG.out.trans ⟨nq, osq, rfl⟩⟩
            · rw [if_neg h8] at hA
              have c8 : (t.k == 8) = false := by simp; omega
              have kW : ∀ nq os, Calls Try.prog 37 #[.int .i64 t.d, .int .i64 (nd : Int)] (grow (W.drewN nq) os) fun e w' => e = .returned (.bool (decide (0 ≤ t.d ∧ t.d < (nd : Int)))) ∧ ∃ q os', w' = grow ((grow (W.drewN nq) os).drewN q) os' := fun nq os =>
                (within_any _ _ _).mono fun e w' hh => ⟨hh.1, by rw [hh.2]; exact Grows.refl _⟩
              clear h1 h3 h2 h4 h8
              by_cases hin : 0 ≤ t.d ∧ t.d < (nd : Int)
              · rw [decide_eq_true hin] at hA kW
                obtain ⟨i, hi⟩ : ∃ i : Nat, t.d = (i : Int) := ⟨t.d.toNat, by omega⟩
                have hil : i < X.ds.length := by have := HND.out; omega
                obtain ⟨b, off, rfl, hcell⟩ := HD3.out (by omega)
                have q' := fun nq os => cell_gr (hcell i hil) nq os
                have htn : t.d.toNat = i := by omega
                rw [htn] at hA
                have hiz : (i : Int) < (nd : Int) := by omega
                have kT : ∀ nq os, Calls Try.prog 38 #[.agg #[.int .i64 t.k, .int .i64 t.d, t.tv, .int .i64 t.lo, .int .i64 t.hi, t.kv], .string ⟨(X.ds.getD i []).toArray⟩] (grow (W.drewN nq) os) fun e w' => e = .returned (.bool (t.txt (X.ds.getD i []))) ∧ ∃ q os', w' = grow ((grow (W.drewN nq) os).drewN q) os' := fun nq os =>
                  htext_any _ t _ (HO.out.up (below_grown_sl _ W nq os (Nat.le_refl _)))
                rw [HE.out.1, HE.out.2] at kT
                rw [hi] at y1' kW kT HW y0 ⊢
                generalize t.txt (X.ds.getD i []) = r at *
                generalize X.ds.getD i [] = m at *
                have HA : Hid _ := hA
                clear hin hi htn hil hcell hA
                go_enter Try.func28, Try.ntmps28
                go_wp2_with fail
                rw [← HW.out]
                refine wp_region_quiet_grown (by assumption) (by kernel_rfl) ?_
                repeat (go_big_quiet_step (first | (go_at_call 37; refine Calls.grown_of (kW _ _)) | (go_at_call 38; refine Calls.grown_of (kT _ _))))
                refine wpQuiet_nil ?_
                intro _ hw'
                obtain ⟨⟨nq, osq⟩, hw''⟩ := hw'
                subst hw''
                go_wp2_with fail
                go_ret
                exact ⟨by rw [HA.out]; simp, HG.out.trans ⟨nq, osq, rfl⟩⟩
              · rw [decide_eq_false hin] at hA kW
                have HA : Hid _ := hA
                clear hA hin
                go_enter Try.func28, Try.ntmps28
                go_wp2_with fail
                rw [← HW.out]
                refine wp_region_quiet_grown (by assumption) (by kernel_rfl) ?_
                repeat (go_big_quiet_step (first | (go_at_call 37; refine Calls.grown_of (kW _ _))))
                refine wpQuiet_nil ?_
                intro _ hw'
                obtain ⟨⟨nq, osq⟩, hw''⟩ := hw'
                subst hw''
                go_wp2_with fail
                go_ret
                exact ⟨by rw [HA.out]; rfl, HG.out.trans ⟨nq, osq, rfl⟩⟩
end Go.Proofs.Ytlfkhinmncbkcaa
