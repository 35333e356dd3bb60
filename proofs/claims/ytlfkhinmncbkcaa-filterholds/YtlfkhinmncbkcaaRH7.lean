/- The reference's Holds, one kind of filters. -/
import Derived.Test.YtlfkhinmncbkcaaRHold
namespace Go.Proofs.Ytlfkhinmncbkcaa
open Go.RowKit Go.Sort

set_option maxHeartbeats 8000000 in
theorem rhold_7 (X : Fc) (N : Nat) (ih : RHoldC X N) (t : Tr) (ht : SizeOf.sizeOf t < N + 1) (w : World) (h : t.Ok w) (hX : X.Ok w) (hf : t.fitA X.ds.length X.ms.length = true) (hk : t.k = 7) :
    Calls Try.prog 16 #[.agg #[.int .i64 t.k, .int .i64 t.d, t.tv, .int .i64 t.lo, .int .i64 t.hi, t.kv], .agg #[.int .i64 X.t, X.dv, X.mv]] w fun e w' => e = .returned (.bool (t.hold X)) ∧ Grows w w' := by
  obtain ⟨at', nt, ct, ak, nk, ck, e1, e2, hnk, hc1, hc2, -⟩ := h.lens
  unfold maxLen at hc2
  obtain ⟨ad, nd, cd, am, nm, cm, f1, f2, hnd, hnm, hd1, hd2, hm1, hm2, -, -⟩ := hX.lens
  unfold maxLen at hd2 hm2
  obtain ⟨W0, hW0⟩ : ∃ W, W = w.alloc (.cells #[.int .i64 t.k, .int .i64 t.d, t.tv, .int .i64 t.lo, .int .i64 t.hi, t.kv] 27) := ⟨_, rfl⟩
  obtain ⟨W, hW1⟩ : ∃ W, W = W0.alloc (.cells #[.int .i64 X.t, X.dv, X.mv] 35) := ⟨_, rfl⟩
  have s0 : W0.heap.size = w.heap.size + 1 := by rw [hW0]; simp
  have gW : Grows w W := by rw [hW1, hW0]; exact (Grows.alloc _ _).trans (Grows.alloc _ _)
  have cc : ∀ c u, #[Value.int .i64 t.k, .int .i64 t.d, t.tv, .int .i64 t.lo, .int .i64 t.hi, t.kv][c]? = some u → W.cell? ⟨w.heap.size, c, none⟩ = some u := fun c u hc => by
    rw [hW1, hW0]; exact cell_alloc_sl _ (al_new _ _ _ rfl hc)
  have cx : ∀ c u, #[Value.int .i64 X.t, X.dv, X.mv][c]? = some u → W.cell? ⟨w.heap.size + 1, c, none⟩ = some u := fun c u hc => by
    rw [hW1]; exact al_new _ _ _ s0.symm hc
  have hW : W = (w.alloc (.cells #[.int .i64 t.k, .int .i64 t.d, t.tv, .int .i64 t.lo, .int .i64 t.hi, t.kv] 27)).alloc (.cells #[.int .i64 X.t, X.dv, X.mv] 35) := by rw [hW1, hW0]
  have HC : Aside _ := And.intro cc cx
  have HO : Hid (t.Ok W ∧ X.Ok W ∧ SizeOf.sizeOf t < N + 1) := ⟨h.up gW.below, hX.up gW.below, ht⟩
  have HF : Hid (t.fitA X.ds.length X.ms.length = true) := hf
  have HE : Hid (t.tv = .slice at' nt ct ∧ t.kv = .slice ak nk ck) := ⟨e1, e2⟩
  have HEx : Hid (X.dv = .slice ad nd cd ∧ X.mv = .slice am nm cm) := ⟨f1, f2⟩
  have HG : Hid (Grows w W) := gW
  have HW : Hid _ := hW
  have HI : Aside _ := ih
  have HNK : Hid (nk = t.ks.length) := hnk
  have HND : Hid (nd = X.ds.length ∧ nm = X.ms.length) := ⟨hnd, hnm⟩
  have HK : Hid (t.k = 7) := hk
  have mixed : Try.prog.follows .mixedOrders = true := by kernel_rfl
  have cK : (t.k == 7) = true := by simp [hk]
  have c2 : (t.k == 2) = false := by simp; omega
  have c3 : (t.k == 3) = false := by simp; omega
  have c4 : (t.k == 4) = false := by simp; omega
  have c5 : (t.k == 5) = false := by simp; omega
  have c6 : (t.k == 6) = false := by simp; omega
  rw [e1, e2, f1, f2] at HW ⊢
  clear h ht hX hf ih hW0 hW1 s0 gW cc cx hW e1 e2 f1 f2 hnk hnd hnm hk
  obtain ⟨⟨hd0, hdD⟩, h62, h71⟩ := fit_rng (by have := HK.out; omega) HF.out
  obtain ⟨j, hj⟩ : ∃ j : Nat, t.d = (j : Int) := ⟨t.d.toNat, by omega⟩
  have hjl : j < X.ds.length := by omega
  have hjz : (j : Int) < (nd : Int) := by have := HND.out.1; omega
  obtain ⟨_, _, _, _, _, _, u1, u2, -, -, -, -, -, -, hd3, -⟩ := HO.out.2.1.lens
  rw [HEx.out.1] at u1
  obtain ⟨bd, od, ud, hdc⟩ := hd3 (by omega)
  simp only [Value.slice.injEq] at u1
  obtain ⟨u1, -, -⟩ := u1
  rw [ud] at u1
  subst u1
  have qd := hdc j hjl
  have HR : Hid (t.hold X = t.txt (X.ds.getD j [])) := hold_txt (by have := HK.out; omega) hj hjl
  have hrt := HO.out.1.rt
  rw [HE.out.1] at hrt
  obtain ⟨hnt, hct1, hct2, hct3⟩ := hrt.cells
  rw [sv_length] at hnt hct1
  rw [← hnt] at hct1
  unfold maxLen at hct2
  have HNT : Hid (nt = t.ts.length) := hnt
  have HTC : Aside (∀ i, i < t.ts.length → ∃ b off, at' = some ⟨b, off, none⟩ ∧ W.cell? ⟨b, off + i, none⟩ = some (.string ⟨(t.ts.getD i []).toArray⟩)) := fun i hi => by
    obtain ⟨b, off, e, hc⟩ := hct3 (by rw [sv_length]; omega)
    exact ⟨b, off, e, hc i _ (sv_get t.ts i hi)⟩
  have hn1 : nt = 1 := by have := HNT.out; have := h71 HK.out; omega
  have HT7 := txt_7 HK.out (h71 HK.out) (X.ds.getD j [])
  obtain ⟨b, off, hb0, q0⟩ := HTC.out 0 (by have := HNT.out; omega)
  rw [Nat.add_zero] at q0
  subst hb0
  subst hn1
  have y0 := fun nq os => cell_gr (HC.out.1 0 _ rfl) nq os
  have y1 := fun nq os => cell_gr (HC.out.1 1 _ rfl) nq os
  have y2 := fun nq os => cell_gr (HC.out.1 2 _ rfl) nq os
  have y3 := fun nq os => cell_gr (HC.out.1 3 _ rfl) nq os
  have y4 := fun nq os => cell_gr (HC.out.1 4 _ rfl) nq os
  have y5 := fun nq os => cell_gr (HC.out.1 5 _ rfl) nq os
  have z0 := fun nq os => cell_gr (HC.out.2 0 _ rfl) nq os
  have z1 := fun nq os => cell_gr (HC.out.2 1 _ rfl) nq os
  have z2 := fun nq os => cell_gr (HC.out.2 2 _ rfl) nq os
  rw [HE.out.1] at y2
  rw [HE.out.2] at y5
  rw [HEx.out.1] at z1
  rw [HEx.out.2] at z2
  rw [hj] at y1
  rw [HT7] at HR
  rw [hj] at HW ⊢
  have qd' := fun nq os => cell_gr qd nq os
  have q0' := fun nq os => cell_gr q0 nq os
  have v2 := HC.out.1 2 _ rfl
  rw [HE.out.1] at v2
  have q0w := q0
  rw [HW.out] at q0w v2
  generalize t.ts.getD 0 [] = s0 at *
  generalize X.ds.getD j [] = s at *
  have hsz := str_size s
  have hss := str_size s0
  have tx := str_toList s0
  clear HT7 hd0 hdD h62 h71 hj hjl hd3 hdc ud u2 hrt hnt hct3 qd q0
  by_cases hp : pre s0 s = true
  · rw [hp] at HR
    obtain ⟨p1, p2⟩ := pre_yes hp
    have p1' : (s0.length : Int) ≤ (s.length : Int) := by omega
    have p1d : decide ((s0.length : Int) ≤ (s.length : Int)) = true := decide_eq_true p1'
    have st := str_take s s0.length
    rw [p2] at st
    have hbb : (s0 == s0) = true := beq_self_eq_true s0
    clear hp p2
    go_enter Try.func16, Try.ntmps16
    go_wp2_with fail
    rw [← HW.out]
    refine wp_region_quiet_grown (by assumption) (by kernel_rfl) ?_
    repeat (go_big_quiet_step (first | fail))
    refine wpQuiet_nil ?_
    intro _ hw'
    obtain ⟨⟨nq, osq⟩, hw''⟩ := hw'
    subst hw''
    obtain ⟨w1, hw1⟩ : ∃ v, v = grow (W.drewN nq) osq := ⟨_, rfl⟩
    rw [← hw1]
    have g1 : Grows W w1 := ⟨nq, osq, hw1⟩
    clear hw1
    go_wp2_with fail
    go_ret
    exact ⟨by rw [HR.out]; simp, HG.out.trans g1⟩
  · have hp' : pre s0 s = false := by simpa using hp
    rw [hp'] at HR
    by_cases hsl : s0.length ≤ s.length
    · have hsl' : (s0.length : Int) ≤ (s.length : Int) := by omega
      have p1d : decide ((s0.length : Int) ≤ (s.length : Int)) = true := decide_eq_true hsl'
      have hne := beq_str (pre_no hp hsl)
      have st := str_take s s0.length
      have t2 := str_toList (s.take s0.length)
      generalize s.take s0.length = t' at *
      clear hp hp'
      go_enter Try.func16, Try.ntmps16
      go_wp2_with fail
      rw [← HW.out]
      refine wp_region_quiet_grown (by assumption) (by kernel_rfl) ?_
      repeat (go_big_quiet_step (first | fail))
      refine wpQuiet_nil ?_
      intro _ hw'
      obtain ⟨⟨nq, osq⟩, hw''⟩ := hw'
      subst hw''
      obtain ⟨w1, hw1⟩ : ∃ v, v = grow (W.drewN nq) osq := ⟨_, rfl⟩
      rw [← hw1]
      have g1 : Grows W w1 := ⟨nq, osq, hw1⟩
      clear hw1
      go_wp2_with fail
      go_ret
      exact ⟨by rw [HR.out]; simp, HG.out.trans g1⟩
    · have hsl' : ¬ (s0.length : Int) ≤ (s.length : Int) := by omega
      have p1d : decide ((s0.length : Int) ≤ (s.length : Int)) = false := decide_eq_false hsl'
      clear hp hp'
      go_enter Try.func16, Try.ntmps16
      go_wp2_with fail
      rw [← HW.out]
      refine wp_region_quiet_grown (by assumption) (by kernel_rfl) ?_
      repeat (go_big_quiet_step (first | fail))
      refine wpQuiet_nil ?_
      intro _ hw'
      obtain ⟨⟨nq, osq⟩, hw''⟩ := hw'
      subst hw''
      obtain ⟨w1, hw1⟩ : ∃ v, v = grow (W.drewN nq) osq := ⟨_, rfl⟩
      rw [← hw1]
      have g1 : Grows W w1 := ⟨nq, osq, hw1⟩
      clear hw1
      go_wp2_with fail
      go_ret
      exact ⟨by rw [HR.out]; simp, HG.out.trans g1⟩
end Go.Proofs.Ytlfkhinmncbkcaa
