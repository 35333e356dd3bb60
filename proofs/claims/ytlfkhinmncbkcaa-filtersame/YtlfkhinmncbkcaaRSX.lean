/- The reference's Same, one way through it. -/
import Derived.Test.YtlfkhinmncbkcaaRSame
namespace Go.Proofs.Ytlfkhinmncbkcaa
open Go.RowKit Go.Sort

set_option maxHeartbeats 8000000 in
theorem rsame_0 (N : Nat) (ih : RSameC N) (a b : Tr) (ht : SizeOf.sizeOf a < N + 1) (w : World) (ha : a.Ok w) (hb : b.Ok w) (hk : a.k ≠ b.k) :
    Calls Try.prog 18 #[.agg #[.int .i64 a.k, .int .i64 a.d, a.tv, .int .i64 a.lo, .int .i64 a.hi, a.kv], .agg #[.int .i64 b.k, .int .i64 b.d, b.tv, .int .i64 b.lo, .int .i64 b.hi, b.kv]] w fun e w' => e = .returned (.bool (a.same b)) ∧ Grows w w' := by
  obtain ⟨at', nt, ct, ak, nk, ck, e1, e2, -, -, -, -⟩ := ha.lens
  obtain ⟨bt', mt, dt, bk, mk, dk, f1, f2, -, -, -, -⟩ := hb.lens
  obtain ⟨W0, hW0⟩ : ∃ W, W = w.alloc (.cells #[.int .i64 a.k, .int .i64 a.d, a.tv, .int .i64 a.lo, .int .i64 a.hi, a.kv] 27) := ⟨_, rfl⟩
  obtain ⟨W, hW1⟩ : ∃ W, W = W0.alloc (.cells #[.int .i64 b.k, .int .i64 b.d, b.tv, .int .i64 b.lo, .int .i64 b.hi, b.kv] 27) := ⟨_, rfl⟩
  have s0 : W0.heap.size = w.heap.size + 1 := by rw [hW0]; simp
  have gW : Grows w W := by rw [hW1, hW0]; exact (Grows.alloc _ _).trans (Grows.alloc _ _)
  have cc : ∀ c u, #[Value.int .i64 a.k, .int .i64 a.d, a.tv, .int .i64 a.lo, .int .i64 a.hi, a.kv][c]? = some u → W.cell? ⟨w.heap.size, c, none⟩ = some u := fun c u hc => by
    rw [hW1, hW0]; exact cell_alloc_sl _ (al_new _ _ _ rfl hc)
  have cx : ∀ c u, #[Value.int .i64 b.k, .int .i64 b.d, b.tv, .int .i64 b.lo, .int .i64 b.hi, b.kv][c]? = some u → W.cell? ⟨w.heap.size + 1, c, none⟩ = some u := fun c u hc => by
    rw [hW1]; exact al_new _ _ _ s0.symm hc
  have hW : W = (w.alloc (.cells #[.int .i64 a.k, .int .i64 a.d, a.tv, .int .i64 a.lo, .int .i64 a.hi, a.kv] 27)).alloc (.cells #[.int .i64 b.k, .int .i64 b.d, b.tv, .int .i64 b.lo, .int .i64 b.hi, b.kv] 27) := by rw [hW1, hW0]
  have HC : Aside _ := And.intro cc cx
  have HO : Hid (a.Ok W ∧ b.Ok W ∧ SizeOf.sizeOf a < N + 1) := ⟨ha.up gW.below, hb.up gW.below, ht⟩
  have HEa : Hid (a.tv = .slice at' nt ct ∧ a.kv = .slice ak nk ck) := ⟨e1, e2⟩
  have HEb : Hid (b.tv = .slice bt' mt dt ∧ b.kv = .slice bk mk dk) := ⟨f1, f2⟩
  have HG : Hid (Grows w W) := gW
  have HW : Hid _ := hW
  have HI : Aside _ := ih
  have mixed : Try.prog.follows .mixedOrders = true := by kernel_rfl
  rw [e1, e2, f1, f2] at HW ⊢
  clear ha hb ht ih hW0 hW1 s0 gW cc cx hW e1 e2 f1 f2
  have HR : Hid (a.same b = false) := same_k hk
  have hkb : (a.k == b.k) = false := by simp [hk]
  have hkn : (a.k != b.k) = true := by simp [hk]
  go_enter Try.func18, Try.ntmps18
  go_wp2_with fail
  rw [← HW.out]
  go_ret
  exact ⟨by rw [HR.out]; rfl, HG.out⟩
set_option maxHeartbeats 8000000 in
theorem rsame_8 (N : Nat) (ih : RSameC N) (a b : Tr) (ht : SizeOf.sizeOf a < N + 1) (w : World) (ha : a.Ok w) (hb : b.Ok w) (hk : a.k = b.k) (h8 : a.k = 8) :
    Calls Try.prog 18 #[.agg #[.int .i64 a.k, .int .i64 a.d, a.tv, .int .i64 a.lo, .int .i64 a.hi, a.kv], .agg #[.int .i64 b.k, .int .i64 b.d, b.tv, .int .i64 b.lo, .int .i64 b.hi, b.kv]] w fun e w' => e = .returned (.bool (a.same b)) ∧ Grows w w' := by
  obtain ⟨at', nt, ct, ak, nk, ck, e1, e2, -, -, -, -⟩ := ha.lens
  obtain ⟨bt', mt, dt, bk, mk, dk, f1, f2, -, -, -, -⟩ := hb.lens
  obtain ⟨W0, hW0⟩ : ∃ W, W = w.alloc (.cells #[.int .i64 a.k, .int .i64 a.d, a.tv, .int .i64 a.lo, .int .i64 a.hi, a.kv] 27) := ⟨_, rfl⟩
  obtain ⟨W, hW1⟩ : ∃ W, W = W0.alloc (.cells #[.int .i64 b.k, .int .i64 b.d, b.tv, .int .i64 b.lo, .int .i64 b.hi, b.kv] 27) := ⟨_, rfl⟩
  have s0 : W0.heap.size = w.heap.size + 1 := by rw [hW0]; simp
  have gW : Grows w W := by rw [hW1, hW0]; exact (Grows.alloc _ _).trans (Grows.alloc _ _)
  have cc : ∀ c u, #[Value.int .i64 a.k, .int .i64 a.d, a.tv, .int .i64 a.lo, .int .i64 a.hi, a.kv][c]? = some u → W.cell? ⟨w.heap.size, c, none⟩ = some u := fun c u hc => by
    rw [hW1, hW0]; exact cell_alloc_sl _ (al_new _ _ _ rfl hc)
  have cx : ∀ c u, #[Value.int .i64 b.k, .int .i64 b.d, b.tv, .int .i64 b.lo, .int .i64 b.hi, b.kv][c]? = some u → W.cell? ⟨w.heap.size + 1, c, none⟩ = some u := fun c u hc => by
    rw [hW1]; exact al_new _ _ _ s0.symm hc
  have hW : W = (w.alloc (.cells #[.int .i64 a.k, .int .i64 a.d, a.tv, .int .i64 a.lo, .int .i64 a.hi, a.kv] 27)).alloc (.cells #[.int .i64 b.k, .int .i64 b.d, b.tv, .int .i64 b.lo, .int .i64 b.hi, b.kv] 27) := by rw [hW1, hW0]
  have HC : Aside _ := And.intro cc cx
  have HO : Hid (a.Ok W ∧ b.Ok W ∧ SizeOf.sizeOf a < N + 1) := ⟨ha.up gW.below, hb.up gW.below, ht⟩
  have HEa : Hid (a.tv = .slice at' nt ct ∧ a.kv = .slice ak nk ck) := ⟨e1, e2⟩
  have HEb : Hid (b.tv = .slice bt' mt dt ∧ b.kv = .slice bk mk dk) := ⟨f1, f2⟩
  have HG : Hid (Grows w W) := gW
  have HW : Hid _ := hW
  have HI : Aside _ := ih
  have mixed : Try.prog.follows .mixedOrders = true := by kernel_rfl
  rw [e1, e2, f1, f2] at HW ⊢
  clear ha hb ht ih hW0 hW1 s0 gW cc cx hW e1 e2 f1 f2
  have HR : Hid (a.same b = (decide (a.d = b.d) && (decide (a.lo = b.lo) && decide (a.hi = b.hi)))) := same_8 hk h8
  have c8 : (a.k == 8) = true := by simp [h8]
  have c5 : (a.k == 5) = false := by simp [h8]
  have c6 : (a.k == 6) = false := by simp [h8]
  have c7 : (a.k == 7) = false := by simp [h8]
  have hkb : (a.k == b.k) = true := by simp [hk]
  rw [← hk] at HW ⊢
  clear hk h8 hkb
  by_cases hd : a.d = b.d
  · have hdb : (a.d == b.d) = true := by simp [hd]
    by_cases hl : a.lo = b.lo
    · have hlb : (a.lo == b.lo) = true := by simp [hl]
      by_cases hh : a.hi = b.hi
      · have HR2 : Hid (a.same b = true) := by show _ = _; rw [HR.out, decide_eq_true hd, decide_eq_true hl, decide_eq_true hh]; rfl
        have hhb : (a.hi == b.hi) = true := by simp [hh]
        clear hd hl hh
        go_enter Try.func18, Try.ntmps18
        go_wp2_with fail
        rw [← HW.out]
        go_ret
        exact ⟨by rw [HR2.out]; rfl, HG.out⟩
      · have HR2 : Hid (a.same b = false) := by show _ = _; rw [HR.out, decide_eq_true hd, decide_eq_true hl, decide_eq_false hh]; rfl
        have hhb : (a.hi == b.hi) = false := by simp [hh]
        clear hd hl hh
        go_enter Try.func18, Try.ntmps18
        go_wp2_with fail
        rw [← HW.out]
        go_ret
        exact ⟨by rw [HR2.out]; rfl, HG.out⟩
    · have HR2 : Hid (a.same b = false) := by show _ = _; rw [HR.out, decide_eq_true hd, decide_eq_false hl]; rfl
      have hlb : (a.lo == b.lo) = false := by simp [hl]
      clear hd hl
      go_enter Try.func18, Try.ntmps18
      go_wp2_with fail
      rw [← HW.out]
      go_ret
      exact ⟨by rw [HR2.out]; rfl, HG.out⟩
  · have HR2 : Hid (a.same b = false) := by show _ = _; rw [HR.out, decide_eq_false hd]; rfl
    have hdb : (a.d == b.d) = false := by simp [hd]
    clear hd
    go_enter Try.func18, Try.ntmps18
    go_wp2_with fail
    rw [← HW.out]
    go_ret
    exact ⟨by rw [HR2.out]; rfl, HG.out⟩
set_option maxHeartbeats 8000000 in
theorem rsame_o (N : Nat) (ih : RSameC N) (a b : Tr) (ht : SizeOf.sizeOf a < N + 1) (w : World) (ha : a.Ok w) (hb : b.Ok w) (hk : a.k = b.k) (h5 : ¬(a.k = 5 ∨ a.k = 6 ∨ a.k = 7)) (h8 : a.k ≠ 8) :
    Calls Try.prog 18 #[.agg #[.int .i64 a.k, .int .i64 a.d, a.tv, .int .i64 a.lo, .int .i64 a.hi, a.kv], .agg #[.int .i64 b.k, .int .i64 b.d, b.tv, .int .i64 b.lo, .int .i64 b.hi, b.kv]] w fun e w' => e = .returned (.bool (a.same b)) ∧ Grows w w' := by
  obtain ⟨at', nt, ct, ak, nk, ck, e1, e2, -, -, -, -⟩ := ha.lens
  obtain ⟨bt', mt, dt, bk, mk, dk, f1, f2, -, -, -, -⟩ := hb.lens
  obtain ⟨W0, hW0⟩ : ∃ W, W = w.alloc (.cells #[.int .i64 a.k, .int .i64 a.d, a.tv, .int .i64 a.lo, .int .i64 a.hi, a.kv] 27) := ⟨_, rfl⟩
  obtain ⟨W, hW1⟩ : ∃ W, W = W0.alloc (.cells #[.int .i64 b.k, .int .i64 b.d, b.tv, .int .i64 b.lo, .int .i64 b.hi, b.kv] 27) := ⟨_, rfl⟩
  have s0 : W0.heap.size = w.heap.size + 1 := by rw [hW0]; simp
  have gW : Grows w W := by rw [hW1, hW0]; exact (Grows.alloc _ _).trans (Grows.alloc _ _)
  have cc : ∀ c u, #[Value.int .i64 a.k, .int .i64 a.d, a.tv, .int .i64 a.lo, .int .i64 a.hi, a.kv][c]? = some u → W.cell? ⟨w.heap.size, c, none⟩ = some u := fun c u hc => by
    rw [hW1, hW0]; exact cell_alloc_sl _ (al_new _ _ _ rfl hc)
  have cx : ∀ c u, #[Value.int .i64 b.k, .int .i64 b.d, b.tv, .int .i64 b.lo, .int .i64 b.hi, b.kv][c]? = some u → W.cell? ⟨w.heap.size + 1, c, none⟩ = some u := fun c u hc => by
    rw [hW1]; exact al_new _ _ _ s0.symm hc
  have hW : W = (w.alloc (.cells #[.int .i64 a.k, .int .i64 a.d, a.tv, .int .i64 a.lo, .int .i64 a.hi, a.kv] 27)).alloc (.cells #[.int .i64 b.k, .int .i64 b.d, b.tv, .int .i64 b.lo, .int .i64 b.hi, b.kv] 27) := by rw [hW1, hW0]
  have HC : Aside _ := And.intro cc cx
  have HO : Hid (a.Ok W ∧ b.Ok W ∧ SizeOf.sizeOf a < N + 1) := ⟨ha.up gW.below, hb.up gW.below, ht⟩
  have HEa : Hid (a.tv = .slice at' nt ct ∧ a.kv = .slice ak nk ck) := ⟨e1, e2⟩
  have HEb : Hid (b.tv = .slice bt' mt dt ∧ b.kv = .slice bk mk dk) := ⟨f1, f2⟩
  have HG : Hid (Grows w W) := gW
  have HW : Hid _ := hW
  have HI : Aside _ := ih
  have mixed : Try.prog.follows .mixedOrders = true := by kernel_rfl
  rw [e1, e2, f1, f2] at HW ⊢
  clear ha hb ht ih hW0 hW1 s0 gW cc cx hW e1 e2 f1 f2
  have HR : Hid (a.same b = allZip (a.kids.map Tr.same) b.kids) := same_o hk h5 h8
  have c8 : (a.k == 8) = false := by simp; omega
  have c5 : (a.k == 5) = false := by simp; omega
  have c6 : (a.k == 6) = false := by simp; omega
  have c7 : (a.k == 7) = false := by simp; omega
  have hkb : (a.k == b.k) = true := by simp [hk]
  have kA := refkids_any W a HO.out.1
  rw [HEa.out.1, HEa.out.2, HW.out] at kA
  have HKK : Hid (a.k = b.k) := hk
  rw [← hk] at HW kA ⊢
  clear hk h5 h8 hkb
  go_enter Try.func18, Try.ntmps18
  go_wp2_with fail
  refine kA.mono ?_
  rintro e w1 ⟨rfl, g1⟩
  rw [← HW.out] at g1
  clear kA
  have kB := refkids_any w1 b (HO.out.2.1.up g1.below)
  rw [HEb.out.1, HEb.out.2] at kB
  have cx := fun c u hc => cell_up g1.below (HC.out.2 c u hc)
  have z0 := cx 0 _ rfl
  have z1 := cx 1 _ rfl
  have z2 := cx 2 _ rfl
  have z3 := cx 3 _ rfl
  have z4 := cx 4 _ rfl
  have z5 := cx 5 _ rfl
  rw [HEb.out.1] at z2
  rw [HEb.out.2] at z5
  have ra := (HO.out.1.up g1.below).rkids
  obtain ⟨a6, n6, c6', e6⟩ := ra.sl
  rw [e6]
  have HE6 : Hid (a.rkidv = .slice a6 n6 c6') := e6
  have HG1 : Hid (Grows W w1) := g1
  clear cx ra e6 g1
  go_wp2_with fail
  refine kB.mono ?_
  rintro e V ⟨rfl, gV⟩
  have gV := HG1.out.trans gV
  clear kB z0 z1 z2 z3 z4 z5
  have ra := (HO.out.1.up gV.below).rkids
  have rb := (HO.out.2.1.up gV.below).rkids
  obtain ⟨b6, m6, d6, f6⟩ := rb.sl
  rw [HE6.out] at ra
  rw [f6] at rb ⊢
  obtain ⟨hn6, hn7, hn8⟩ := ra.len
  obtain ⟨hm6, hm7, hm8⟩ := rb.len
  unfold maxLen at hn8 hm8
  have HNA : Hid (n6 = a.kids.length ∧ m6 = b.kids.length) := ⟨hn6, hm6⟩
  have HRA : Hid (RdsT V (.slice a6 n6 c6') a.kids ∧ RdsT V (.slice b6 m6 d6) b.kids) := ⟨ra, rb⟩
  have HGV : Hid (Grows w V) := HG.out.trans gV
  clear ra rb f6 hn6 hm6 gV
  by_cases hl : n6 = m6
  · subst hl
    go_wp2_with fail
    go_loopg [8] n6 (fun kx vi wr => ∃ i : Nat, vi = .int .i64 i ∧ i ≤ n6 ∧ n6 - i ≤ kx ∧ Hid (∀ k (h1 : k < a.kids.length) (h2 : k < b.kids.length), k < i → a.kids[k].same b.kids[k] = true) ∧ Hid (Grows V wr))
    case atStart => exact ⟨0, rfl, by omega, Nat.le_refl _, fun j _ _ hj => by omega, Grows.refl _⟩
    case round =>
      obtain ⟨i, rfl, hi, hkx, HJ, HGr⟩ := hrel
      by_cases hlt : i < n6
      · have hltz : (i : Int) < (n6 : Int) := by omega
        have hil : i < a.kids.length := by have := HNA.out.1; omega
        have him : i < b.kids.length := by have := HNA.out.2; omega
        have hra := RdsT.below HRA.out.1 HGr.out.below
        have hrb := RdsT.below HRA.out.2 HGr.out.below
        obtain ⟨ba, oa, rfl, hcella⟩ := hra.at (by omega)
        obtain ⟨bb, ob, rfl, hcellb⟩ := hrb.at (by omega)
        obtain ⟨q0, q1, q2, q3, q4, q5⟩ := hcella i hil
        obtain ⟨r0, r1, r2, r3, r4, r5⟩ := hcellb i him
        have okx := hra.ok a.kids[i] (List.getElem_mem hil)
        have oky := hrb.ok b.kids[i] (List.getElem_mem him)
        have hsz : SizeOf.sizeOf a.kids[i] < N := by have := kids_lt (List.getElem_mem hil); have := HO.out.2.2; omega
        have HSI : Hid (a.kids[i].same b.kids[i] = true → ∀ k (h1 : k < a.kids.length) (h2 : k < b.kids.length), k < i + 1 → a.kids[k].same b.kids[k] = true) := fun h k h1 h2 hk => by
          by_cases e : k = i
          · subst e; exact h
          · exact HJ.out k h1 h2 (by omega)
        have HST : Hid (a.kids[i].same b.kids[i] = false → a.same b = false) := fun h => by rw [HR.out]; exact allZip_bad i hil him h
        generalize a.kids[i] = x at *
        generalize b.kids[i] = y at *
        have kR : ∀ nq os, Calls Try.prog 18 #[.agg #[.int .i64 x.k, .int .i64 x.d, x.tv, .int .i64 x.lo, .int .i64 x.hi, x.kv], .agg #[.int .i64 y.k, .int .i64 y.d, y.tv, .int .i64 y.lo, .int .i64 y.hi, y.kv]] (grow (wr.drewN nq) os) fun e w' => e = .returned (.bool (x.same y)) ∧ ∃ q os', w' = grow ((grow (wr.drewN nq) os).drewN q) os' := fun nq os =>
          HI.out x hsz y _ (okx.up (below_grown_sl _ wr nq os (Nat.le_refl _))) (oky.up (below_grown_sl _ wr nq os (Nat.le_refl _)))
        obtain ⟨at5, nt5, ct5, ak5, nk5, ck5, g1, g2, -, -, -, -⟩ := okx.lens
        obtain ⟨at4, nt4, ct4, ak4, nk4, ck4, g3, g4, -, -, -, -⟩ := oky.lens
        rw [g1, g2, g3, g4] at kR
        rw [g1] at q2
        rw [g2] at q5
        rw [g3] at r2
        rw [g4] at r5
        generalize x.same y = R at *
        have p0 := fun nq os => cell_gr q0 nq os
        have p1 := fun nq os => cell_gr q1 nq os
        have p2 := fun nq os => cell_gr q2 nq os
        have p3 := fun nq os => cell_gr q3 nq os
        have p4 := fun nq os => cell_gr q4 nq os
        have p5 := fun nq os => cell_gr q5 nq os
        have u0 := fun nq os => cell_gr r0 nq os
        have u1 := fun nq os => cell_gr r1 nq os
        have u2 := fun nq os => cell_gr r2 nq os
        have u3 := fun nq os => cell_gr r3 nq os
        have u4 := fun nq os => cell_gr r4 nq os
        have u5 := fun nq os => cell_gr r5 nq os
        generalize x.k = xk at *
        generalize x.d = xd at *
        generalize x.lo = xl at *
        generalize x.hi = xh at *
        generalize y.k = yk at *
        generalize y.d = yd at *
        generalize y.lo = yl at *
        generalize y.hi = yh at *
        clear hra hrb hcella hcellb okx oky hsz g1 g2 g3 g4 q0 q1 q2 q3 q4 q5 r0 r1 r2 r3 r4 r5
        go_wp2_with fail
        refine wp_region_quiet_grown (by assumption) (by kernel_rfl) ?_
        repeat (go_big_quiet_step (first | (go_at_call 18; with_reducible refine Calls.grown_of (kR _ _))))
        refine wpQuiet_nil ?_
        intro _ hw'
        obtain ⟨⟨nq, osq⟩, hw''⟩ := hw'
        subst hw''
        obtain ⟨w2, hw2⟩ : ∃ v, v = grow (wr.drewN nq) osq := ⟨_, rfl⟩
        rw [← hw2]
        have g1 : Grows wr w2 := ⟨nq, osq, hw2⟩
        clear hw2
        clear kR p0 p1 p2 p3 p4 p5 u0 u1 u2 u3 u4 u5
        cases R with
        | false =>
          have HS2 : Hid (a.same b = false) := HST.out rfl
          go_wp2_with fail
          go_ret
          exact ⟨by rw [HS2.out]; rfl, HGV.out.trans (HGr.out.trans g1)⟩
        | true =>
          have HS2 : Hid _ := HSI.out rfl
          go_wp2_with fail
          go_roundg (n6 - (i + 1))
          case measure => omega
          case rel => exact ⟨i + 1, by go_num, by omega, Nat.le_refl _, HS2.out, HGr.out.trans g1⟩
      · have hltz : ¬ (i : Int) < (n6 : Int) := by omega
        have HR2 : Hid (a.same b = true) := by
          show _ = _
          rw [HR.out]
          have h1 := HNA.out
          exact allZip_good (by omega) fun k hk hm => HJ.out k hk hm (by omega)
        go_wp2_with fail
        go_ret
        exact ⟨by rw [HR2.out]; rfl, HGV.out.trans HGr.out⟩
  · have hlb : ((n6 : Int) == (m6 : Int)) = false := by simp; omega
    have HR2 : Hid (a.same b = false) := by show _ = _; rw [HR.out]; exact allZip_len (by have := HNA.out; omega)
    clear hl
    go_wp2_with fail
    go_ret
    exact ⟨by rw [HR2.out]; rfl, HGV.out⟩
end Go.Proofs.Ytlfkhinmncbkcaa
