/- The reference's Holds, one kind of filters. -/
import Derived.Test.YtlfkhinmncbkcaaRHold
namespace Go.Proofs.Ytlfkhinmncbkcaa
open Go.RowKit Go.Sort

set_option maxHeartbeats 8000000 in
theorem rhold_5 (X : Fc) (N : Nat) (ih : RHoldC X N) (t : Tr) (ht : SizeOf.sizeOf t < N + 1) (w : World) (h : t.Ok w) (hX : X.Ok w) (hf : t.fitA X.ds.length X.ms.length = true) (hk : t.k = 5) :
    Calls Try.prog 16 #[.agg #[.int .i64 t.k, .int .i64 t.d, t.tv, .int .i64 t.lo, .int .i64 t.hi, t.kv], .agg #[.int .i64 X.t, X.dv, X.mv]] w fun e w' => e = .returned (.bool (t.hold X)) ∧ Grows w w' := by
  obtain ⟨at', nt, ct, ak, nk, ck, e1, e2, hnk, hc1, hc2, -⟩ := h.lens
  unfold maxLen at hc2
  obtain ⟨ad, nd, cd, am, nm, cm, f1, f2, hnd, hnm, hd1, hd2, hm1, hm2, -, -⟩ := hX.lens
  unfold maxLen at hd2 hm2
  obtain ⟨W0, hW0⟩ : ∃ W, W = w.alloc (.cells #[.int .i64 t.k, .int .i64 t.d, t.tv, .int .i64 t.lo, .int .i64 t.hi, t.kv] 27) := ⟨_, rfl⟩
  obtain ⟨W, hW1⟩ : ∃ W, W = W0.alloc (.cells #[.int .i64 X.t, X.dv, X.mv] 35) := ⟨_, rfl⟩
  have s0 : W0.heap.size = w.heap.size + 1 := by rw [hW0]; simp
  have gW : Grows w W := by rw [hW1, hW0]; exact (Grows.alloc _ _).trans (Grows.alloc _ _)
  have cc : ∀ c u, #[Value.int .i64 t.k, .int .i64 t.d, t.tv, .int .i64 t.lo, .int .i64 t.hi, t.kv][c]? = some u → W.cell? ⟨w.heap.size, c, none⟩ = some u := fun c u hc => by
    rw [hW1, hW0]; exact cell_alloc_sl _ (al_new _ _ _ rfl hc)
  have cx : ∀ c u, #[Value.int .i64 X.t, X.dv, X.mv][c]? = some u → W.cell? ⟨w.heap.size + 1, c, none⟩ = some u := fun c u hc => by
    rw [hW1]; exact al_new _ _ _ s0.symm hc
  have hW : W = (w.alloc (.cells #[.int .i64 t.k, .int .i64 t.d, t.tv, .int .i64 t.lo, .int .i64 t.hi, t.kv] 27)).alloc (.cells #[.int .i64 X.t, X.dv, X.mv] 35) := by rw [hW1, hW0]
  have HC : Aside _ := And.intro cc cx
  have HO : Hid (t.Ok W ∧ X.Ok W ∧ SizeOf.sizeOf t < N + 1) := ⟨h.up gW.below, hX.up gW.below, ht⟩
  have HF : Hid (t.fitA X.ds.length X.ms.length = true) := hf
  have HE : Hid (t.tv = .slice at' nt ct ∧ t.kv = .slice ak nk ck) := ⟨e1, e2⟩
  have HEx : Hid (X.dv = .slice ad nd cd ∧ X.mv = .slice am nm cm) := ⟨f1, f2⟩
  have HG : Hid (Grows w W) := gW
  have HW : Hid _ := hW
  have HI : Aside _ := ih
  have HNK : Hid (nk = t.ks.length) := hnk
  have HND : Hid (nd = X.ds.length ∧ nm = X.ms.length) := ⟨hnd, hnm⟩
  have HK : Hid (t.k = 5) := hk
  have mixed : Try.prog.follows .mixedOrders = true := by kernel_rfl
  have cK : (t.k == 5) = true := by simp [hk]
  have c2 : (t.k == 2) = false := by simp; omega
  have c3 : (t.k == 3) = false := by simp; omega
  have c4 : (t.k == 4) = false := by simp; omega
  rw [e1, e2, f1, f2] at HW ⊢
  clear h ht hX hf ih hW0 hW1 s0 gW cc cx hW e1 e2 f1 f2 hnk hnd hnm hk
  obtain ⟨⟨hd0, hdD⟩, h62, h71⟩ := fit_rng (by have := HK.out; omega) HF.out
  obtain ⟨j, hj⟩ : ∃ j : Nat, t.d = (j : Int) := ⟨t.d.toNat, by omega⟩
  have hjl : j < X.ds.length := by omega
  have hjz : (j : Int) < (nd : Int) := by have := HND.out.1; omega
  obtain ⟨_, _, _, _, _, _, u1, u2, -, -, -, -, -, -, hd3, -⟩ := HO.out.2.1.lens
  rw [HEx.out.1] at u1
  obtain ⟨bd, od, ud, hdc⟩ := hd3 (by omega)
  simp only [Value.slice.injEq] at u1
  obtain ⟨u1, -, -⟩ := u1
  rw [ud] at u1
  subst u1
  have qd := hdc j hjl
  have HR : Hid (t.hold X = t.txt (X.ds.getD j [])) := hold_txt (by have := HK.out; omega) hj hjl
  have hrt := HO.out.1.rt
  rw [HE.out.1] at hrt
  obtain ⟨hnt, hct1, hct2, hct3⟩ := hrt.cells
  rw [sv_length] at hnt hct1
  rw [← hnt] at hct1
  unfold maxLen at hct2
  have HNT : Hid (nt = t.ts.length) := hnt
  have HTC : Aside (∀ i, i < t.ts.length → ∃ b off, at' = some ⟨b, off, none⟩ ∧ W.cell? ⟨b, off + i, none⟩ = some (.string ⟨(t.ts.getD i []).toArray⟩)) := fun i hi => by
    obtain ⟨b, off, e, hc⟩ := hct3 (by rw [sv_length]; omega)
    exact ⟨b, off, e, hc i _ (sv_get t.ts i hi)⟩
  have HT5 := txt_5 HK.out (X.ds.getD j [])
  rw [HT5] at HR
  rw [hj] at HW ⊢
  have HJD : Hid (t.d = (j : Int)) := hj
  have HQD : Hid _ := qd
  generalize hs : X.ds.getD j [] = s at *
  clear hs
  generalize hts : t.ts = ts at *
  clear hts
  clear HT5 hd0 hdD h62 h71 hj hjl hd3 hdc ud u2 hrt hnt hct3 qd
  go_enter Try.func16, Try.ntmps16
  go_wp2_with fail
  rw [← HW.out]
  go_loopg [9] nt (fun kx vi wr => ∃ i : Nat, vi = .int .i64 i ∧ i ≤ nt ∧ nt - i ≤ kx ∧ Hid (∀ k, k < i → ts.getD k [] ≠ s) ∧ Hid (Grows W wr))
  case atStart => exact ⟨0, rfl, by omega, Nat.le_refl _, fun j hj => by omega, Grows.refl _⟩
  case round =>
    obtain ⟨i, rfl, hi, hkx, HJ, HGr⟩ := hrel
    have cc := fun c u hc => cell_up HGr.out.below (HC.out.1 c u hc)
    have cx := fun c u hc => cell_up HGr.out.below (HC.out.2 c u hc)
    have v2 := cc 2 _ rfl
    rw [HE.out.1] at v2
    by_cases hlt : i < nt
    · have hltz : (i : Int) < (nt : Int) := by omega
      have hil : i < ts.length := by have := HNT.out; omega
      obtain ⟨b, off, hb0, q0⟩ := HTC.out i hil
      subst hb0
      have q0' := fun nq os => cell_gr (cell_up HGr.out.below q0) nq os
      have qd' := fun nq os => cell_gr (cell_up HGr.out.below HQD.out) nq os
      have y1 := fun nq os => cell_gr (cc 1 _ rfl) nq os
      have y2 := fun nq os => cell_gr (cc 2 _ rfl) nq os
      have z1 := fun nq os => cell_gr (cx 1 _ rfl) nq os
      rw [HE.out.1] at y2
      rw [HJD.out] at y1
      rw [HEx.out.1] at z1
      have HSI : Hid (∀ h : ts.getD i [] ≠ s, ∀ k, k < i + 1 → ts.getD k [] ≠ s) := fun h k hk => by
        by_cases e : k = i
        · subst e; exact h
        · exact HJ.out k (by omega)
      have HST : Hid (ts.getD i [] = s → hasT ts s = true) := fun h => hasT_true hil h.symm
      generalize ts.getD i [] = si at *
      have t0 := str_toList si
      have t1 := str_toList s
      clear cc cx q0
      by_cases heq : si = s
      · have HR2 : Hid (t.hold X = true) := by show _ = _; rw [HR.out, HST.out heq]
        subst heq
        have hbb : (si == si) = true := beq_self_eq_true si
        go_wp2_with fail
        refine wp_region_quiet_grown (by assumption) (by kernel_rfl) ?_
        repeat (go_big_quiet_step (first | fail))
        refine wpQuiet_nil ?_
        intro _ hw'
        obtain ⟨⟨nq, osq⟩, hw''⟩ := hw'
        subst hw''
        obtain ⟨w1, hw1⟩ : ∃ v, v = grow (wr.drewN nq) osq := ⟨_, rfl⟩
        rw [← hw1]
        have g1 : Grows wr w1 := ⟨nq, osq, hw1⟩
        clear hw1
        go_wp2_with fail
        go_ret
        exact ⟨by rw [HR2.out]; rfl, HG.out.trans (HGr.out.trans g1)⟩
      · have hne := beq_str heq
        have HS2 : Hid _ := HSI.out heq
        clear heq
        go_wp2_with fail
        refine wp_region_quiet_grown (by assumption) (by kernel_rfl) ?_
        repeat (go_big_quiet_step (first | fail))
        refine wpQuiet_nil ?_
        intro _ hw'
        obtain ⟨⟨nq, osq⟩, hw''⟩ := hw'
        subst hw''
        obtain ⟨w1, hw1⟩ : ∃ v, v = grow (wr.drewN nq) osq := ⟨_, rfl⟩
        rw [← hw1]
        have g1 : Grows wr w1 := ⟨nq, osq, hw1⟩
        clear hw1
        go_wp2_with fail
        go_roundg (nt - (i + 1))
        case measure => omega
        case rel => exact ⟨i + 1, by go_num, by omega, Nat.le_refl _, HS2.out, HGr.out.trans g1⟩
    · have hltz : ¬ (i : Int) < (nt : Int) := by omega
      have HR2 : Hid (t.hold X = false) := by
        show _ = _
        rw [HR.out]
        exact hasT_false fun k hk e => HJ.out k (by have := HNT.out; omega) e.symm
      clear cc cx
      go_wp2_with fail
      go_ret
      exact ⟨by rw [HR2.out]; rfl, HG.out.trans HGr.out⟩
end Go.Proofs.Ytlfkhinmncbkcaa
