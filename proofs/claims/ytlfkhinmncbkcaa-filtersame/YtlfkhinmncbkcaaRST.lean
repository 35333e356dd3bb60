/- The reference's Same, one way through it. -/
import Derived.Test.YtlfkhinmncbkcaaRSame
namespace Go.Proofs.Ytlfkhinmncbkcaa
open Go.RowKit Go.Sort

set_option maxHeartbeats 8000000 in
theorem rsame_5 (N : Nat) (ih : RSameC N) (a b : Tr) (ht : SizeOf.sizeOf a < N + 1) (w : World) (ha : a.Ok w) (hb : b.Ok w) (hk : a.k = b.k) (hk5 : a.k = 5) :
    Calls Try.prog 18 #[.agg #[.int .i64 a.k, .int .i64 a.d, a.tv, .int .i64 a.lo, .int .i64 a.hi, a.kv], .agg #[.int .i64 b.k, .int .i64 b.d, b.tv, .int .i64 b.lo, .int .i64 b.hi, b.kv]] w fun e w' => e = .returned (.bool (a.same b)) ∧ Grows w w' := by
  obtain ⟨at', nt, ct, ak, nk, ck, e1, e2, -, -, -, -⟩ := ha.lens
  obtain ⟨bt', mt, dt, bk, mk, dk, f1, f2, -, -, -, -⟩ := hb.lens
  obtain ⟨W0, hW0⟩ : ∃ W, W = w.alloc (.cells #[.int .i64 a.k, .int .i64 a.d, a.tv, .int .i64 a.lo, .int .i64 a.hi, a.kv] 27) := ⟨_, rfl⟩
  obtain ⟨W, hW1⟩ : ∃ W, W = W0.alloc (.cells #[.int .i64 b.k, .int .i64 b.d, b.tv, .int .i64 b.lo, .int .i64 b.hi, b.kv] 27) := ⟨_, rfl⟩
  have s0 : W0.heap.size = w.heap.size + 1 := by rw [hW0]; simp
  have gW : Grows w W := by rw [hW1, hW0]; exact (Grows.alloc _ _).trans (Grows.alloc _ _)
  have cc : ∀ c u, #[Value.int .i64 a.k, .int .i64 a.d, a.tv, .int .i64 a.lo, .int .i64 a.hi, a.kv][c]? = some u → W.cell? ⟨w.heap.size, c, none⟩ = some u := fun c u hc => by
    rw [hW1, hW0]; exact cell_alloc_sl _ (al_new _ _ _ rfl hc)
  have cx : ∀ c u, #[Value.int .i64 b.k, .int .i64 b.d, b.tv, .int .i64 b.lo, .int .i64 b.hi, b.kv][c]? = some u → W.cell? ⟨w.heap.size + 1, c, none⟩ = some u := fun c u hc => by
    rw [hW1]; exact al_new _ _ _ s0.symm hc
  have hW : W = (w.alloc (.cells #[.int .i64 a.k, .int .i64 a.d, a.tv, .int .i64 a.lo, .int .i64 a.hi, a.kv] 27)).alloc (.cells #[.int .i64 b.k, .int .i64 b.d, b.tv, .int .i64 b.lo, .int .i64 b.hi, b.kv] 27) := by rw [hW1, hW0]
  have HC : Aside _ := And.intro cc cx
  have HO : Hid (a.Ok W ∧ b.Ok W ∧ SizeOf.sizeOf a < N + 1) := ⟨ha.up gW.below, hb.up gW.below, ht⟩
  have HEa : Hid (a.tv = .slice at' nt ct ∧ a.kv = .slice ak nk ck) := ⟨e1, e2⟩
  have HEb : Hid (b.tv = .slice bt' mt dt ∧ b.kv = .slice bk mk dk) := ⟨f1, f2⟩
  have HG : Hid (Grows w W) := gW
  have HW : Hid _ := hW
  have HI : Aside _ := ih
  have mixed : Try.prog.follows .mixedOrders = true := by kernel_rfl
  rw [e1, e2, f1, f2] at HW ⊢
  clear ha hb ht ih hW0 hW1 s0 gW cc cx hW e1 e2 f1 f2
  have h5 : a.k = 5 ∨ a.k = 6 ∨ a.k = 7 := by omega
  have HR : Hid (a.same b = (decide (a.d = b.d) && decide (a.ts = b.ts))) := same_5 hk h5
  have c5 : (a.k == 5) = true := by simp [hk5]
  clear hk5
  have hkb : (a.k == b.k) = true := by simp [hk]
  have hrta := HO.out.1.rt
  rw [HEa.out.1] at hrta
  obtain ⟨hnta, hct1a, hct2a, hct3a⟩ := hrta.cells
  rw [sv_length] at hnta hct1a
  rw [← hnta] at hct1a
  unfold maxLen at hct2a
  have HNTa : Hid (nt = a.ts.length) := hnta
  have HTCa : Aside (∀ i, i < a.ts.length → ∃ bb off, at' = some ⟨bb, off, none⟩ ∧ W.cell? ⟨bb, off + i, none⟩ = some (.string ⟨(a.ts.getD i []).toArray⟩)) := fun i hi => by
    obtain ⟨bb, off, e, hc⟩ := hct3a (by rw [sv_length]; omega)
    exact ⟨bb, off, e, hc i _ (sv_get a.ts i hi)⟩
  clear hrta hnta hct3a
  have hrtb := HO.out.2.1.rt
  rw [HEb.out.1] at hrtb
  obtain ⟨hntb, hct1b, hct2b, hct3b⟩ := hrtb.cells
  rw [sv_length] at hntb hct1b
  rw [← hntb] at hct1b
  unfold maxLen at hct2b
  have HNTb : Hid (mt = b.ts.length) := hntb
  have HTCb : Aside (∀ i, i < b.ts.length → ∃ bb off, bt' = some ⟨bb, off, none⟩ ∧ W.cell? ⟨bb, off + i, none⟩ = some (.string ⟨(b.ts.getD i []).toArray⟩)) := fun i hi => by
    obtain ⟨bb, off, e, hc⟩ := hct3b (by rw [sv_length]; omega)
    exact ⟨bb, off, e, hc i _ (sv_get b.ts i hi)⟩
  clear hrtb hntb hct3b
  rw [← hk] at HW ⊢
  have HKK : Hid (a.k = b.k) := hk
  clear hk h5 hkb
  by_cases hd : a.d = b.d
  · have HD : Hid (a.d = b.d) := hd
    rw [← hd] at HW ⊢
    clear hd
    by_cases hl : nt = mt
    · subst hl
      have HLL : Hid (a.ts.length = b.ts.length) := by show _ = _; rw [← HNTa.out, ← HNTb.out]
      go_enter Try.func18, Try.ntmps18
      go_wp2_with fail
      rw [← HW.out]
      go_loopg [5] nt (fun kx vi wr => ∃ i : Nat, vi = .int .i64 i ∧ i ≤ nt ∧ nt - i ≤ kx ∧ Hid (∀ k, k < i → a.ts.getD k [] = b.ts.getD k []) ∧ Hid (Grows W wr))
      case atStart => exact ⟨0, rfl, by omega, Nat.le_refl _, fun j hj => by omega, Grows.refl _⟩
      case round =>
        obtain ⟨i, rfl, hi, hkx, HJ, HGr⟩ := hrel
        have cc := fun c u hc => cell_up HGr.out.below (HC.out.1 c u hc)
        have cx := fun c u hc => cell_up HGr.out.below (HC.out.2 c u hc)
        have v2 := cc 2 _ rfl
        rw [HEa.out.1] at v2
        by_cases hlt : i < nt
        · have hltz : (i : Int) < (nt : Int) := by omega
          have hil : i < a.ts.length := by have := HNTa.out; omega
          have him : i < b.ts.length := by have := HNTb.out; omega
          obtain ⟨ba, oa, hba, qa⟩ := HTCa.out i hil
          obtain ⟨bb, ob, hbb, qb⟩ := HTCb.out i him
          subst hba
          subst hbb
          have qa' := fun nq os => cell_gr (cell_up HGr.out.below qa) nq os
          have qb' := fun nq os => cell_gr (cell_up HGr.out.below qb) nq os
          have y2 := fun nq os => cell_gr (cc 2 _ rfl) nq os
          have z2 := fun nq os => cell_gr (cx 2 _ rfl) nq os
          rw [HEa.out.1] at y2
          rw [HEb.out.1] at z2
          have HSI : Hid (a.ts.getD i [] = b.ts.getD i [] → ∀ k, k < i + 1 → a.ts.getD k [] = b.ts.getD k []) := fun h k hk => by
            by_cases e : k = i
            · subst e; exact h
            · exact HJ.out k (by omega)
          have HST : Hid (a.ts.getD i [] ≠ b.ts.getD i [] → a.same b = false) := fun h => by
            rw [HR.out, decide_eq_false (p := a.ts = b.ts) (fun e => h (by rw [e]))]; simp
          generalize a.ts.getD i [] = si at *
          generalize b.ts.getD i [] = s at *
          have t0 := str_toList si
          have t1 := str_toList s
          clear cc cx qa qb
          by_cases heq : si = s
          · have HS2 : Hid _ := HSI.out heq
            subst heq
            have hbb : (si == si) = true := beq_self_eq_true si
            go_wp2_with fail
            refine wp_region_quiet_grown (by assumption) (by kernel_rfl) ?_
            repeat (go_big_quiet_step (first | fail))
            refine wpQuiet_nil ?_
            intro _ hw'
            obtain ⟨⟨nq, osq⟩, hw''⟩ := hw'
            subst hw''
            obtain ⟨w1, hw1⟩ : ∃ v, v = grow (wr.drewN nq) osq := ⟨_, rfl⟩
            rw [← hw1]
            have g1 : Grows wr w1 := ⟨nq, osq, hw1⟩
            clear hw1
            go_wp2_with fail
            go_roundg (nt - (i + 1))
            case measure => omega
            case rel => exact ⟨i + 1, by go_num, by omega, Nat.le_refl _, HS2.out, HGr.out.trans g1⟩
          · have hne := beq_str heq
            have HS2 : Hid (a.same b = false) := HST.out heq
            clear heq
            go_wp2_with fail
            refine wp_region_quiet_grown (by assumption) (by kernel_rfl) ?_
            repeat (go_big_quiet_step (first | fail))
            refine wpQuiet_nil ?_
            intro _ hw'
            obtain ⟨⟨nq, osq⟩, hw''⟩ := hw'
            subst hw''
            obtain ⟨w1, hw1⟩ : ∃ v, v = grow (wr.drewN nq) osq := ⟨_, rfl⟩
            rw [← hw1]
            have g1 : Grows wr w1 := ⟨nq, osq, hw1⟩
            clear hw1
            go_wp2_with fail
            go_ret
            exact ⟨by rw [HS2.out]; rfl, HG.out.trans (HGr.out.trans g1)⟩
        · have hltz : ¬ (i : Int) < (nt : Int) := by omega
          have HR2 : Hid (a.same b = true) := by
            show _ = _
            rw [HR.out, decide_eq_true HD.out, decide_eq_true (p := a.ts = b.ts) (List.ext_getElem HLL.out fun k h1 h2 => by
              have := HJ.out k (by have := HNTa.out; omega)
              rwa [getD_at h1, getD_at h2] at this)]
            rfl
          clear cc cx
          go_wp2_with fail
          go_ret
          exact ⟨by rw [HR2.out]; rfl, HG.out.trans HGr.out⟩
    · have HR2 : Hid (a.same b = false) := by
        show _ = _
        rw [HR.out, decide_eq_false (p := a.ts = b.ts) (fun e => hl (by have h1 := HNTa.out; have h2 := HNTb.out; rw [e] at h1; omega))]; simp
      have hlb : ((nt : Int) == (mt : Int)) = false := by simp; omega
      clear hl
      go_enter Try.func18, Try.ntmps18
      go_wp2_with fail
      rw [← HW.out]
      go_ret
      exact ⟨by rw [HR2.out]; rfl, HG.out⟩
  · have HR2 : Hid (a.same b = false) := by show _ = _; rw [HR.out, decide_eq_false hd]; rfl
    have hdb : (a.d == b.d) = false := by simp [hd]
    clear hd
    go_enter Try.func18, Try.ntmps18
    go_wp2_with fail
    rw [← HW.out]
    go_ret
    exact ⟨by rw [HR2.out]; rfl, HG.out⟩
set_option maxHeartbeats 8000000 in
theorem rsame_6 (N : Nat) (ih : RSameC N) (a b : Tr) (ht : SizeOf.sizeOf a < N + 1) (w : World) (ha : a.Ok w) (hb : b.Ok w) (hk : a.k = b.k) (hk5 : a.k = 6) :
    Calls Try.prog 18 #[.agg #[.int .i64 a.k, .int .i64 a.d, a.tv, .int .i64 a.lo, .int .i64 a.hi, a.kv], .agg #[.int .i64 b.k, .int .i64 b.d, b.tv, .int .i64 b.lo, .int .i64 b.hi, b.kv]] w fun e w' => e = .returned (.bool (a.same b)) ∧ Grows w w' := by
  obtain ⟨at', nt, ct, ak, nk, ck, e1, e2, -, -, -, -⟩ := ha.lens
  obtain ⟨bt', mt, dt, bk, mk, dk, f1, f2, -, -, -, -⟩ := hb.lens
  obtain ⟨W0, hW0⟩ : ∃ W, W = w.alloc (.cells #[.int .i64 a.k, .int .i64 a.d, a.tv, .int .i64 a.lo, .int .i64 a.hi, a.kv] 27) := ⟨_, rfl⟩
  obtain ⟨W, hW1⟩ : ∃ W, W = W0.alloc (.cells #[.int .i64 b.k, .int .i64 b.d, b.tv, .int .i64 b.lo, .int .i64 b.hi, b.kv] 27) := ⟨_, rfl⟩
  have s0 : W0.heap.size = w.heap.size + 1 := by rw [hW0]; simp
  have gW : Grows w W := by rw [hW1, hW0]; exact (Grows.alloc _ _).trans (Grows.alloc _ _)
  have cc : ∀ c u, #[Value.int .i64 a.k, .int .i64 a.d, a.tv, .int .i64 a.lo, .int .i64 a.hi, a.kv][c]? = some u → W.cell? ⟨w.heap.size, c, none⟩ = some u := fun c u hc => by
    rw [hW1, hW0]; exact cell_alloc_sl _ (al_new _ _ _ rfl hc)
  have cx : ∀ c u, #[Value.int .i64 b.k, .int .i64 b.d, b.tv, .int .i64 b.lo, .int .i64 b.hi, b.kv][c]? = some u → W.cell? ⟨w.heap.size + 1, c, none⟩ = some u := fun c u hc => by
    rw [hW1]; exact al_new _ _ _ s0.symm hc
  have hW : W = (w.alloc (.cells #[.int .i64 a.k, .int .i64 a.d, a.tv, .int .i64 a.lo, .int .i64 a.hi, a.kv] 27)).alloc (.cells #[.int .i64 b.k, .int .i64 b.d, b.tv, .int .i64 b.lo, .int .i64 b.hi, b.kv] 27) := by rw [hW1, hW0]
  have HC : Aside _ := And.intro cc cx
  have HO : Hid (a.Ok W ∧ b.Ok W ∧ SizeOf.sizeOf a < N + 1) := ⟨ha.up gW.below, hb.up gW.below, ht⟩
  have HEa : Hid (a.tv = .slice at' nt ct ∧ a.kv = .slice ak nk ck) := ⟨e1, e2⟩
  have HEb : Hid (b.tv = .slice bt' mt dt ∧ b.kv = .slice bk mk dk) := ⟨f1, f2⟩
  have HG : Hid (Grows w W) := gW
  have HW : Hid _ := hW
  have HI : Aside _ := ih
  have mixed : Try.prog.follows .mixedOrders = true := by kernel_rfl
  rw [e1, e2, f1, f2] at HW ⊢
  clear ha hb ht ih hW0 hW1 s0 gW cc cx hW e1 e2 f1 f2
  have h5 : a.k = 5 ∨ a.k = 6 ∨ a.k = 7 := by omega
  have HR : Hid (a.same b = (decide (a.d = b.d) && decide (a.ts = b.ts))) := same_5 hk h5
  have c5 : (a.k == 5) = false := by simp [hk5]
  have c6 : (a.k == 6) = true := by simp [hk5]
  clear hk5
  have hkb : (a.k == b.k) = true := by simp [hk]
  have hrta := HO.out.1.rt
  rw [HEa.out.1] at hrta
  obtain ⟨hnta, hct1a, hct2a, hct3a⟩ := hrta.cells
  rw [sv_length] at hnta hct1a
  rw [← hnta] at hct1a
  unfold maxLen at hct2a
  have HNTa : Hid (nt = a.ts.length) := hnta
  have HTCa : Aside (∀ i, i < a.ts.length → ∃ bb off, at' = some ⟨bb, off, none⟩ ∧ W.cell? ⟨bb, off + i, none⟩ = some (.string ⟨(a.ts.getD i []).toArray⟩)) := fun i hi => by
    obtain ⟨bb, off, e, hc⟩ := hct3a (by rw [sv_length]; omega)
    exact ⟨bb, off, e, hc i _ (sv_get a.ts i hi)⟩
  clear hrta hnta hct3a
  have hrtb := HO.out.2.1.rt
  rw [HEb.out.1] at hrtb
  obtain ⟨hntb, hct1b, hct2b, hct3b⟩ := hrtb.cells
  rw [sv_length] at hntb hct1b
  rw [← hntb] at hct1b
  unfold maxLen at hct2b
  have HNTb : Hid (mt = b.ts.length) := hntb
  have HTCb : Aside (∀ i, i < b.ts.length → ∃ bb off, bt' = some ⟨bb, off, none⟩ ∧ W.cell? ⟨bb, off + i, none⟩ = some (.string ⟨(b.ts.getD i []).toArray⟩)) := fun i hi => by
    obtain ⟨bb, off, e, hc⟩ := hct3b (by rw [sv_length]; omega)
    exact ⟨bb, off, e, hc i _ (sv_get b.ts i hi)⟩
  clear hrtb hntb hct3b
  rw [← hk] at HW ⊢
  have HKK : Hid (a.k = b.k) := hk
  clear hk h5 hkb
  by_cases hd : a.d = b.d
  · have HD : Hid (a.d = b.d) := hd
    rw [← hd] at HW ⊢
    clear hd
    by_cases hl : nt = mt
    · subst hl
      have HLL : Hid (a.ts.length = b.ts.length) := by show _ = _; rw [← HNTa.out, ← HNTb.out]
      go_enter Try.func18, Try.ntmps18
      go_wp2_with fail
      rw [← HW.out]
      go_loopg [5] nt (fun kx vi wr => ∃ i : Nat, vi = .int .i64 i ∧ i ≤ nt ∧ nt - i ≤ kx ∧ Hid (∀ k, k < i → a.ts.getD k [] = b.ts.getD k []) ∧ Hid (Grows W wr))
      case atStart => exact ⟨0, rfl, by omega, Nat.le_refl _, fun j hj => by omega, Grows.refl _⟩
      case round =>
        obtain ⟨i, rfl, hi, hkx, HJ, HGr⟩ := hrel
        have cc := fun c u hc => cell_up HGr.out.below (HC.out.1 c u hc)
        have cx := fun c u hc => cell_up HGr.out.below (HC.out.2 c u hc)
        have v2 := cc 2 _ rfl
        rw [HEa.out.1] at v2
        by_cases hlt : i < nt
        · have hltz : (i : Int) < (nt : Int) := by omega
          have hil : i < a.ts.length := by have := HNTa.out; omega
          have him : i < b.ts.length := by have := HNTb.out; omega
          obtain ⟨ba, oa, hba, qa⟩ := HTCa.out i hil
          obtain ⟨bb, ob, hbb, qb⟩ := HTCb.out i him
          subst hba
          subst hbb
          have qa' := fun nq os => cell_gr (cell_up HGr.out.below qa) nq os
          have qb' := fun nq os => cell_gr (cell_up HGr.out.below qb) nq os
          have y2 := fun nq os => cell_gr (cc 2 _ rfl) nq os
          have z2 := fun nq os => cell_gr (cx 2 _ rfl) nq os
          rw [HEa.out.1] at y2
          rw [HEb.out.1] at z2
          have HSI : Hid (a.ts.getD i [] = b.ts.getD i [] → ∀ k, k < i + 1 → a.ts.getD k [] = b.ts.getD k []) := fun h k hk => by
            by_cases e : k = i
            · subst e; exact h
            · exact HJ.out k (by omega)
          have HST : Hid (a.ts.getD i [] ≠ b.ts.getD i [] → a.same b = false) := fun h => by
            rw [HR.out, decide_eq_false (p := a.ts = b.ts) (fun e => h (by rw [e]))]; simp
          generalize a.ts.getD i [] = si at *
          generalize b.ts.getD i [] = s at *
          have t0 := str_toList si
          have t1 := str_toList s
          clear cc cx qa qb
          by_cases heq : si = s
          · have HS2 : Hid _ := HSI.out heq
            subst heq
            have hbb : (si == si) = true := beq_self_eq_true si
            go_wp2_with fail
            refine wp_region_quiet_grown (by assumption) (by kernel_rfl) ?_
            repeat (go_big_quiet_step (first | fail))
            refine wpQuiet_nil ?_
            intro _ hw'
            obtain ⟨⟨nq, osq⟩, hw''⟩ := hw'
            subst hw''
            obtain ⟨w1, hw1⟩ : ∃ v, v = grow (wr.drewN nq) osq := ⟨_, rfl⟩
            rw [← hw1]
            have g1 : Grows wr w1 := ⟨nq, osq, hw1⟩
            clear hw1
            go_wp2_with fail
            go_roundg (nt - (i + 1))
            case measure => omega
            case rel => exact ⟨i + 1, by go_num, by omega, Nat.le_refl _, HS2.out, HGr.out.trans g1⟩
          · have hne := beq_str heq
            have HS2 : Hid (a.same b = false) := HST.out heq
            clear heq
            go_wp2_with fail
            refine wp_region_quiet_grown (by assumption) (by kernel_rfl) ?_
            repeat (go_big_quiet_step (first | fail))
            refine wpQuiet_nil ?_
            intro _ hw'
            obtain ⟨⟨nq, osq⟩, hw''⟩ := hw'
            subst hw''
            obtain ⟨w1, hw1⟩ : ∃ v, v = grow (wr.drewN nq) osq := ⟨_, rfl⟩
            rw [← hw1]
            have g1 : Grows wr w1 := ⟨nq, osq, hw1⟩
            clear hw1
            go_wp2_with fail
            go_ret
            exact ⟨by rw [HS2.out]; rfl, HG.out.trans (HGr.out.trans g1)⟩
        · have hltz : ¬ (i : Int) < (nt : Int) := by omega
          have HR2 : Hid (a.same b = true) := by
            show _ = _
            rw [HR.out, decide_eq_true HD.out, decide_eq_true (p := a.ts = b.ts) (List.ext_getElem HLL.out fun k h1 h2 => by
              have := HJ.out k (by have := HNTa.out; omega)
              rwa [getD_at h1, getD_at h2] at this)]
            rfl
          clear cc cx
          go_wp2_with fail
          go_ret
          exact ⟨by rw [HR2.out]; rfl, HG.out.trans HGr.out⟩
    · have HR2 : Hid (a.same b = false) := by
        show _ = _
        rw [HR.out, decide_eq_false (p := a.ts = b.ts) (fun e => hl (by have h1 := HNTa.out; have h2 := HNTb.out; rw [e] at h1; omega))]; simp
      have hlb : ((nt : Int) == (mt : Int)) = false := by simp; omega
      clear hl
      go_enter Try.func18, Try.ntmps18
      go_wp2_with fail
      rw [← HW.out]
      go_ret
      exact ⟨by rw [HR2.out]; rfl, HG.out⟩
  · have HR2 : Hid (a.same b = false) := by show _ = _; rw [HR.out, decide_eq_false hd]; rfl
    have hdb : (a.d == b.d) = false := by simp [hd]
    clear hd
    go_enter Try.func18, Try.ntmps18
    go_wp2_with fail
    rw [← HW.out]
    go_ret
    exact ⟨by rw [HR2.out]; rfl, HG.out⟩
set_option maxHeartbeats 8000000 in
theorem rsame_7 (N : Nat) (ih : RSameC N) (a b : Tr) (ht : SizeOf.sizeOf a < N + 1) (w : World) (ha : a.Ok w) (hb : b.Ok w) (hk : a.k = b.k) (hk5 : a.k = 7) :
    Calls Try.prog 18 #[.agg #[.int .i64 a.k, .int .i64 a.d, a.tv, .int .i64 a.lo, .int .i64 a.hi, a.kv], .agg #[.int .i64 b.k, .int .i64 b.d, b.tv, .int .i64 b.lo, .int .i64 b.hi, b.kv]] w fun e w' => e = .returned (.bool (a.same b)) ∧ Grows w w' := by
  obtain ⟨at', nt, ct, ak, nk, ck, e1, e2, -, -, -, -⟩ := ha.lens
  obtain ⟨bt', mt, dt, bk, mk, dk, f1, f2, -, -, -, -⟩ := hb.lens
  obtain ⟨W0, hW0⟩ : ∃ W, W = w.alloc (.cells #[.int .i64 a.k, .int .i64 a.d, a.tv, .int .i64 a.lo, .int .i64 a.hi, a.kv] 27) := ⟨_, rfl⟩
  obtain ⟨W, hW1⟩ : ∃ W, W = W0.alloc (.cells #[.int .i64 b.k, .int .i64 b.d, b.tv, .int .i64 b.lo, .int .i64 b.hi, b.kv] 27) := ⟨_, rfl⟩
  have s0 : W0.heap.size = w.heap.size + 1 := by rw [hW0]; simp
  have gW : Grows w W := by rw [hW1, hW0]; exact (Grows.alloc _ _).trans (Grows.alloc _ _)
  have cc : ∀ c u, #[Value.int .i64 a.k, .int .i64 a.d, a.tv, .int .i64 a.lo, .int .i64 a.hi, a.kv][c]? = some u → W.cell? ⟨w.heap.size, c, none⟩ = some u := fun c u hc => by
    rw [hW1, hW0]; exact cell_alloc_sl _ (al_new _ _ _ rfl hc)
  have cx : ∀ c u, #[Value.int .i64 b.k, .int .i64 b.d, b.tv, .int .i64 b.lo, .int .i64 b.hi, b.kv][c]? = some u → W.cell? ⟨w.heap.size + 1, c, none⟩ = some u := fun c u hc => by
    rw [hW1]; exact al_new _ _ _ s0.symm hc
  have hW : W = (w.alloc (.cells #[.int .i64 a.k, .int .i64 a.d, a.tv, .int .i64 a.lo, .int .i64 a.hi, a.kv] 27)).alloc (.cells #[.int .i64 b.k, .int .i64 b.d, b.tv, .int .i64 b.lo, .int .i64 b.hi, b.kv] 27) := by rw [hW1, hW0]
  have HC : Aside _ := And.intro cc cx
  have HO : Hid (a.Ok W ∧ b.Ok W ∧ SizeOf.sizeOf a < N + 1) := ⟨ha.up gW.below, hb.up gW.below, ht⟩
  have HEa : Hid (a.tv = .slice at' nt ct ∧ a.kv = .slice ak nk ck) := ⟨e1, e2⟩
  have HEb : Hid (b.tv = .slice bt' mt dt ∧ b.kv = .slice bk mk dk) := ⟨f1, f2⟩
  have HG : Hid (Grows w W) := gW
  have HW : Hid _ := hW
  have HI : Aside _ := ih
  have mixed : Try.prog.follows .mixedOrders = true := by kernel_rfl
  rw [e1, e2, f1, f2] at HW ⊢
  clear ha hb ht ih hW0 hW1 s0 gW cc cx hW e1 e2 f1 f2
  have h5 : a.k = 5 ∨ a.k = 6 ∨ a.k = 7 := by omega
  have HR : Hid (a.same b = (decide (a.d = b.d) && decide (a.ts = b.ts))) := same_5 hk h5
  have c5 : (a.k == 5) = false := by simp [hk5]
  have c6 : (a.k == 6) = false := by simp [hk5]
  have c7 : (a.k == 7) = true := by simp [hk5]
  clear hk5
  have hkb : (a.k == b.k) = true := by simp [hk]
  have hrta := HO.out.1.rt
  rw [HEa.out.1] at hrta
  obtain ⟨hnta, hct1a, hct2a, hct3a⟩ := hrta.cells
  rw [sv_length] at hnta hct1a
  rw [← hnta] at hct1a
  unfold maxLen at hct2a
  have HNTa : Hid (nt = a.ts.length) := hnta
  have HTCa : Aside (∀ i, i < a.ts.length → ∃ bb off, at' = some ⟨bb, off, none⟩ ∧ W.cell? ⟨bb, off + i, none⟩ = some (.string ⟨(a.ts.getD i []).toArray⟩)) := fun i hi => by
    obtain ⟨bb, off, e, hc⟩ := hct3a (by rw [sv_length]; omega)
    exact ⟨bb, off, e, hc i _ (sv_get a.ts i hi)⟩
  clear hrta hnta hct3a
  have hrtb := HO.out.2.1.rt
  rw [HEb.out.1] at hrtb
  obtain ⟨hntb, hct1b, hct2b, hct3b⟩ := hrtb.cells
  rw [sv_length] at hntb hct1b
  rw [← hntb] at hct1b
  unfold maxLen at hct2b
  have HNTb : Hid (mt = b.ts.length) := hntb
  have HTCb : Aside (∀ i, i < b.ts.length → ∃ bb off, bt' = some ⟨bb, off, none⟩ ∧ W.cell? ⟨bb, off + i, none⟩ = some (.string ⟨(b.ts.getD i []).toArray⟩)) := fun i hi => by
    obtain ⟨bb, off, e, hc⟩ := hct3b (by rw [sv_length]; omega)
    exact ⟨bb, off, e, hc i _ (sv_get b.ts i hi)⟩
  clear hrtb hntb hct3b
  rw [← hk] at HW ⊢
  have HKK : Hid (a.k = b.k) := hk
  clear hk h5 hkb
  by_cases hd : a.d = b.d
  · have HD : Hid (a.d = b.d) := hd
    rw [← hd] at HW ⊢
    clear hd
    by_cases hl : nt = mt
    · subst hl
      have HLL : Hid (a.ts.length = b.ts.length) := by show _ = _; rw [← HNTa.out, ← HNTb.out]
      go_enter Try.func18, Try.ntmps18
      go_wp2_with fail
      rw [← HW.out]
      go_loopg [5] nt (fun kx vi wr => ∃ i : Nat, vi = .int .i64 i ∧ i ≤ nt ∧ nt - i ≤ kx ∧ Hid (∀ k, k < i → a.ts.getD k [] = b.ts.getD k []) ∧ Hid (Grows W wr))
      case atStart => exact ⟨0, rfl, by omega, Nat.le_refl _, fun j hj => by omega, Grows.refl _⟩
      case round =>
        obtain ⟨i, rfl, hi, hkx, HJ, HGr⟩ := hrel
        have cc := fun c u hc => cell_up HGr.out.below (HC.out.1 c u hc)
        have cx := fun c u hc => cell_up HGr.out.below (HC.out.2 c u hc)
        have v2 := cc 2 _ rfl
        rw [HEa.out.1] at v2
        by_cases hlt : i < nt
        · have hltz : (i : Int) < (nt : Int) := by omega
          have hil : i < a.ts.length := by have := HNTa.out; omega
          have him : i < b.ts.length := by have := HNTb.out; omega
          obtain ⟨ba, oa, hba, qa⟩ := HTCa.out i hil
          obtain ⟨bb, ob, hbb, qb⟩ := HTCb.out i him
          subst hba
          subst hbb
          have qa' := fun nq os => cell_gr (cell_up HGr.out.below qa) nq os
          have qb' := fun nq os => cell_gr (cell_up HGr.out.below qb) nq os
          have y2 := fun nq os => cell_gr (cc 2 _ rfl) nq os
          have z2 := fun nq os => cell_gr (cx 2 _ rfl) nq os
          rw [HEa.out.1] at y2
          rw [HEb.out.1] at z2
          have HSI : Hid (a.ts.getD i [] = b.ts.getD i [] → ∀ k, k < i + 1 → a.ts.getD k [] = b.ts.getD k []) := fun h k hk => by
            by_cases e : k = i
            · subst e; exact h
            · exact HJ.out k (by omega)
          have HST : Hid (a.ts.getD i [] ≠ b.ts.getD i [] → a.same b = false) := fun h => by
            rw [HR.out, decide_eq_false (p := a.ts = b.ts) (fun e => h (by rw [e]))]; simp
          generalize a.ts.getD i [] = si at *
          generalize b.ts.getD i [] = s at *
          have t0 := str_toList si
          have t1 := str_toList s
          clear cc cx qa qb
          by_cases heq : si = s
          · have HS2 : Hid _ := HSI.out heq
            subst heq
            have hbb : (si == si) = true := beq_self_eq_true si
            go_wp2_with fail
            refine wp_region_quiet_grown (by assumption) (by kernel_rfl) ?_
            repeat (go_big_quiet_step (first | fail))
            refine wpQuiet_nil ?_
            intro _ hw'
            obtain ⟨⟨nq, osq⟩, hw''⟩ := hw'
            subst hw''
            obtain ⟨w1, hw1⟩ : ∃ v, v = grow (wr.drewN nq) osq := ⟨_, rfl⟩
            rw [← hw1]
            have g1 : Grows wr w1 := ⟨nq, osq, hw1⟩
            clear hw1
            go_wp2_with fail
            go_roundg (nt - (i + 1))
            case measure => omega
            case rel => exact ⟨i + 1, by go_num, by omega, Nat.le_refl _, HS2.out, HGr.out.trans g1⟩
          · have hne := beq_str heq
            have HS2 : Hid (a.same b = false) := HST.out heq
            clear heq
            go_wp2_with fail
            refine wp_region_quiet_grown (by assumption) (by kernel_rfl) ?_
            repeat (go_big_quiet_step (first | fail))
            refine wpQuiet_nil ?_
            intro _ hw'
            obtain ⟨⟨nq, osq⟩, hw''⟩ := hw'
            subst hw''
            obtain ⟨w1, hw1⟩ : ∃ v, v = grow (wr.drewN nq) osq := ⟨_, rfl⟩
            rw [← hw1]
            have g1 : Grows wr w1 := ⟨nq, osq, hw1⟩
            clear hw1
            go_wp2_with fail
            go_ret
            exact ⟨by rw [HS2.out]; rfl, HG.out.trans (HGr.out.trans g1)⟩
        · have hltz : ¬ (i : Int) < (nt : Int) := by omega
          have HR2 : Hid (a.same b = true) := by
            show _ = _
            rw [HR.out, decide_eq_true HD.out, decide_eq_true (p := a.ts = b.ts) (List.ext_getElem HLL.out fun k h1 h2 => by
              have := HJ.out k (by have := HNTa.out; omega)
              rwa [getD_at h1, getD_at h2] at this)]
            rfl
          clear cc cx
          go_wp2_with fail
          go_ret
          exact ⟨by rw [HR2.out]; rfl, HG.out.trans HGr.out⟩
    · have HR2 : Hid (a.same b = false) := by
        show _ = _
        rw [HR.out, decide_eq_false (p := a.ts = b.ts) (fun e => hl (by have h1 := HNTa.out; have h2 := HNTb.out; rw [e] at h1; omega))]; simp
      have hlb : ((nt : Int) == (mt : Int)) = false := by simp; omega
      clear hl
      go_enter Try.func18, Try.ntmps18
      go_wp2_with fail
      rw [← HW.out]
      go_ret
      exact ⟨by rw [HR2.out]; rfl, HG.out⟩
  · have HR2 : Hid (a.same b = false) := by show _ = _; rw [HR.out, decide_eq_false hd]; rfl
    have hdb : (a.d == b.d) = false := by simp [hd]
    clear hd
    go_enter Try.func18, Try.ntmps18
    go_wp2_with fail
    rw [← HW.out]
    go_ret
    exact ⟨by rw [HR2.out]; rfl, HG.out⟩
end Go.Proofs.Ytlfkhinmncbkcaa
