/- The contract of the reference's Check. -/
import Derived.Test.YtiiihjihegilnaaGreatDoorQrc
import Derived.Test.YtiiihjihegilnaaGreatDoorQch
namespace Go.Proofs.YtiiihjihegilnaaGreatDoor
open Go.RowKit Go.Sort

/-- What the reference's Check answers. -/
def RTells (D M : Int) (q : Qm) (w : World) (e : Ending) (w' : World) : Prop :=
  ((∀ k, k < 8 → look D M q k = -1) ∧ e = .returned (.tuple #[.string ⟨#[]⟩, .int .i64 0]) ∨
   ∃ k, k < 8 ∧ (∀ j, j < k → look D M q j = -1) ∧ look D M q k ≠ -1 ∧ e = .returned (.tuple #[.string (nam k), .int .i64 (look D M q k)])) ∧ Below w.heap.size w w'
theorem RTells.at {D M : Int} {q : Qm} {w w' : World} {b : ByteArray} {r : Int} (k : Nat) (hk : k < 8) (hp : ∀ j, j < k → look D M q j = -1) (hl : look D M q k = r) (hr : r ≠ -1) (hb : b = nam k) (g : Below w.heap.size w w') : RTells D M q w (.returned (.tuple #[.string b, .int .i64 r])) w' :=
  ⟨.inr ⟨k, hk, hp, by rw [hl]; exact hr, by rw [hb, hl]⟩, g⟩
theorem upto_step {D M : Int} {q : Qm} {k : Nat} (h : ∀ j, j < k → look D M q j = -1) (hk : look D M q k = -1) : ∀ j, j < k + 1 → look D M q j = -1 := fun j hj => by
  rcases Nat.lt_or_eq_of_le (Nat.le_of_lt_succ hj) with h1 | rfl
  · exact h j h1
  · exact hk
theorem unl_t : unl true = -1 := rfl
theorem unl_f : unl false = 0 := rfl
set_option maxRecDepth 100000 in
set_option maxHeartbeats 8000000 in
theorem refchk_any (w : World) (D M : Int) (q : Qm) (h : q.Ok w) :
    Calls Tryz.prog 7 #[.agg #[.int .i64 D, .int .i64 M], .agg #[.int .i64 q.F, .int .i64 q.T, .int .i64 q.t.k, .int .i64 q.t.d, q.t.tv, .int .i64 q.t.lo, .int .i64 q.t.hi, q.t.kv, .int .i64 q.g, q.sv, q.av, .int .i64 q.G, .int .i64 q.R]] w (RTells D M q w) := by
  obtain ⟨W, hW⟩ : ∃ W, W = (w.alloc (.cells #[.int .i64 D, .int .i64 M] 23)).alloc (.cells q.cells 33) := ⟨_, rfl⟩
  have gW : Below w.heap.size w W := by rw [hW]; exact ((Grows.alloc _ _).trans (Grows.alloc _ _)).below
  have hB : QB W w.heap.size (w.heap.size + 1) D M q := by
    refine ⟨?_, fun c u hu => ?_, h.up gW⟩
    · rw [hW]; exact ⟨cell_grow (by simp) _, cell_grow (by simp) _⟩
    · rw [hW, World.cell?_alloc_at _ _ _ _ (by simp)]; exact hu
  obtain ⟨⟨a1, n1, c1, e1⟩, ⟨a2, n2, c2, e2⟩, ⟨a3, n3, c3, e3⟩, ⟨a4, n4, c4, e4⟩⟩ := h.sls
  have hcs : q.cells = #[.int .i64 q.F, .int .i64 q.T, .int .i64 q.t.k, .int .i64 q.t.d, q.t.tv, .int .i64 q.t.lo, .int .i64 q.t.hi, q.t.kv, .int .i64 q.g, q.sv, q.av, .int .i64 q.G, .int .i64 q.R] := rfl
  rw [e1, e2, e3, e4] at hcs
  rw [hcs] at hW
  have HCS : Hid _ := hcs
  have HE : Hid (q.t.tv = .slice a1 n1 c1 ∧ q.t.kv = .slice a2 n2 c2 ∧ q.sv = .slice a3 n3 c3 ∧ q.av = .slice a4 n4 c4) := ⟨e1, e2, e3, e4⟩
  have HN : Hid (n3 = q.ss.length ∧ n4 = q.ag.length ∧ n3 ≤ 9223372036854775807 ∧ n4 ≤ 9223372036854775807) := by
    have s := h.s
    have a := h.a
    rw [e3] at s
    rw [e4] at a
    obtain ⟨s1, s2, s3, -⟩ := s.at
    obtain ⟨x1, -, x2, x3, -⟩ := a.cells (by decide)
    unfold maxLen at s3 x3
    exact ⟨s1, x1, by omega, by omega⟩
  have HW : Hid _ := hW
  have HQ : Hid (QB W w.heap.size (w.heap.size + 1) D M q) := hB
  have HGW : Hid (Below w.heap.size w W) := gW
  obtain ⟨Bs, hBs⟩ : ∃ Bs, Bs = w.heap.size := ⟨_, rfl⟩
  have HBs : Hid _ := hBs
  rw [e1, e2, e3, e4]
  have mixed : Tryz.prog.follows .mixedOrders = true := by kernel_rfl
  clear h hB gW hcs hW e1 e2 e3 e4 hBs
  go_enter Tryz.func7, Tryz.ntmps7
  go_wp2_with fail
  rw [← HW.out]
  refine (Fx.reffine_any W D M).mono ?_
  rintro e w1 ⟨rfl, b1⟩
  have HQ1 : Hid (QB w1 w.heap.size (w.heap.size + 1) D M q) := HQ.out.up b1
  have HG1 : Hid (Below w.heap.size w w1) := HGW.out.trans (b1.mono HGW.out.size)
  clear b1
  obtain ⟨p0, hp0⟩ : ∃ p, p = Fx.finB D M := ⟨_, rfl⟩
  rw [← hp0]
  have HP0 : Hid (look D M q 0 = unl p0) := by rw [hp0]; rfl
  clear hp0
  cases p0 with
  | false =>
    go_wp2_with fail
    go_returns
    exact RTells.at 0 (by omega) (fun j hj => by omega) HP0.out (by decide) rfl HG1.out
  | true =>
    have U1 : Hid (∀ j, j < 1 → look D M q j = -1) := upto_step (fun j hj => by omega) HP0.out
    have f0 : w1.cell? ⟨w.heap.size + 1, 0, none⟩ = some (.int .i64 q.F) := HQ1.out.c 0 _ rfl
    have f1 : w1.cell? ⟨w.heap.size + 1, 1, none⟩ = some (.int .i64 q.T) := HQ1.out.c 1 _ rfl
    by_cases s1 : q.F < 0
    · have HL : Hid (look D M q 1 = 0) := by show unl _ = _; rw [decide_eq_false (by omega)]; rfl
      go_wp2_with fail
      go_returns
      exact RTells.at 1 (by omega) U1.out HL.out (by decide) rfl HG1.out
    by_cases s2 : q.T < q.F
    · have HL : Hid (look D M q 1 = 0) := by show unl _ = _; rw [decide_eq_false (by omega)]; rfl
      go_wp2_with fail
      go_returns
      exact RTells.at 1 (by omega) U1.out HL.out (by decide) rfl HG1.out
    by_cases s3 : 1099511627776 < q.T
    · have HL : Hid (look D M q 1 = 0) := by show unl _ = _; rw [decide_eq_false (by omega)]; rfl
      go_wp2_with fail
      go_returns
      exact RTells.at 1 (by omega) U1.out HL.out (by decide) rfl HG1.out
    have U2 : Hid (∀ j, j < 2 → look D M q j = -1) := upto_step U1.out (by show unl _ = _; rw [decide_eq_true (by omega)]; rfl)
    have g0 := HQ1.out.s.1
    have g1 := HQ1.out.s.2
    have f2 : w1.cell? ⟨w.heap.size + 1, 2, none⟩ = some (.int .i64 q.t.k) := HQ1.out.c 2 _ rfl
    have f3 : w1.cell? ⟨w.heap.size + 1, 3, none⟩ = some (.int .i64 q.t.d) := HQ1.out.c 3 _ rfl
    have f4 : w1.cell? ⟨w.heap.size + 1, 4, none⟩ = some (.slice a1 n1 c1) := by rw [← HE.out.1]; exact HQ1.out.c 4 _ rfl
    have f5 : w1.cell? ⟨w.heap.size + 1, 5, none⟩ = some (.int .i64 q.t.lo) := HQ1.out.c 5 _ rfl
    have f6 : w1.cell? ⟨w.heap.size + 1, 6, none⟩ = some (.int .i64 q.t.hi) := HQ1.out.c 6 _ rfl
    have f7 : w1.cell? ⟨w.heap.size + 1, 7, none⟩ = some (.slice a2 n2 c2) := by rw [← HE.out.2.1]; exact HQ1.out.c 7 _ rfl
    have kF := Fi.refcheck_any w1 D M q.t HQ1.out.ok.t
    rw [HE.out.1, HE.out.2.1] at kF
    obtain ⟨p2, hp2⟩ : ∃ p, p = q.t.may D M := ⟨_, rfl⟩
    rw [← hp2] at kF
    have HP2 : Hid (look D M q 2 = unl p2) := by rw [hp2]; rfl
    clear hp2
    go_wp2_with fail
    refine kF.mono ?_
    rintro e w2 ⟨rfl, b2⟩
    have HQ2 : Hid (QB w2 w.heap.size (w.heap.size + 1) D M q) := HQ1.out.up b2.below
    have HG2 : Hid (Below w.heap.size w w2) := HG1.out.trans (b2.below.mono HG1.out.size)
    clear b2 kF f0 f1 f2 f3 f4 f5 f6 f7 g0 g1
    cases p2 with
    | false =>
      go_wp2_with fail
      go_returns
      exact RTells.at 2 (by omega) U2.out HP2.out (by decide) rfl HG2.out
    | true =>
      have U3 : Hid (∀ j, j < 3 → look D M q j = -1) := upto_step U2.out HP2.out
      have f8 : w2.cell? ⟨w.heap.size + 1, 8, none⟩ = some (.int .i64 q.g) := HQ2.out.c 8 _ rfl
      by_cases t1 : q.g < 0
      · have HL : Hid (look D M q 3 = 0) := by show unl _ = _; rw [decide_eq_false (by omega)]; rfl
        go_wp2_with fail
        go_returns
        exact RTells.at 3 (by omega) U3.out HL.out (by decide) rfl HG2.out
      by_cases t2 : 1099511627776 < q.g
      · have HL : Hid (look D M q 3 = 0) := by show unl _ = _; rw [decide_eq_false (by omega)]; rfl
        go_wp2_with fail
        go_returns
        exact RTells.at 3 (by omega) U3.out HL.out (by decide) rfl HG2.out
      have U4 : Hid (∀ j, j < 4 → look D M q j = -1) := upto_step U3.out (by show unl _ = _; rw [decide_eq_true (by omega)]; rfl)
      have f9 : w2.cell? ⟨w.heap.size + 1, 9, none⟩ = some (.slice a3 n3 c3) := by rw [← HE.out.2.2.1]; exact HQ2.out.c 9 _ rfl
      have hn3 := HN.out.2.2.1
      by_cases v1 : n3 = 0
      · have HL : Hid (look D M q 4 = 0) := by show wset _ _ = _; unfold wset; rw [if_pos (by have := HN.out.1; omega)]
        have v1b : ((n3 : Int) == 0) = true := by rw [beq_iff_eq]; omega
        go_wp2_with fail
        go_returns
        exact RTells.at 4 (by omega) U4.out HL.out (by decide) rfl HG2.out
      have v1b : ((n3 : Int) == 0) = false := by rw [beq_eq_false_iff_ne]; omega
      by_cases v2 : (64 : Int) < (n3 : Int)
      · have HL : Hid (look D M q 4 = 0) := by show wset _ _ = _; unfold wset; rw [if_pos (by have := HN.out.1; omega)]
        go_wp2_with fail
        go_returns
        exact RTells.at 4 (by omega) U4.out HL.out (by decide) rfl HG2.out
      have HW4 : Hid (look D M q 4 = idxL (setP D) q.ss) := by show wset _ _ = _; unfold wset; rw [if_neg (by have := HN.out.1; omega)]
      go_wp2_with fail
      clear f8 f9
      go_loopg [7] n3 (fun kx v7 wr => ∃ (i : Nat), v7 = .int .i64 i ∧ i ≤ n3 ∧ n3 - i ≤ kx ∧ Hid (∀ j (hj : j < q.ss.length), j < i → setP D q.ss[j] = false) ∧ Hid (Grows w2 wr))
      case atStart => exact ⟨0, rfl, by omega, Nat.le_refl _, (fun _ _ h => by omega), Grows.refl _⟩
      case round =>
        obtain ⟨i, rfl, hi, hkx, HR, HG⟩ := hrel
        have HQ3 : Hid (QB wr w.heap.size (w.heap.size + 1) D M q) := HQ2.out.up (Grows.below HG.out)
        have HG3 : Hid (Below w.heap.size w wr) := HG2.out.trans ((Grows.below HG.out).mono HG2.out.size)
        have f9 : wr.cell? ⟨w.heap.size + 1, 9, none⟩ = some (.slice a3 n3 c3) := by rw [← HE.out.2.2.1]; exact HQ3.out.c 9 _ rfl
        by_cases hlt : i < n3
        · have hltz : (i : Int) < (n3 : Int) := by omega
          have hil : i < q.ss.length := by have := HN.out.1; omega
          have rs := HQ3.out.ok.s
          rw [HE.out.2.2.1] at rs
          obtain ⟨-, -, -, hd⟩ := rs.at
          obtain ⟨b3, o3, rfl, hc⟩ := hd (by omega)
          have r1 := rs.ok _ (List.getElem_mem hil)
          have ce := hc i hil
          have hsp : setP D q.ss[i] = !risB D q.ss[i].2 0 := rfl
          have HS : Hid (∀ b, setP D (q.ss[i]'hil) = b → ∀ j (hj : j < q.ss.length), j = i → setP D q.ss[j] = b) := fun b hb j hj e => by subst e; exact hb
          have HIT : Hid (setP D (q.ss[i]'hil) = true → idxL (setP D) q.ss = i) := fun hb => idxL_hit hil (fun j hj => HR.out j (by omega) hj) hb
          obtain ⟨x1, m1, y1, h1⟩ := r1.sl
          rw [h1] at ce r1
          generalize hss : q.ss[i].2 = sl at *
          obtain ⟨pr, hpr⟩ : ∃ pr, pr = risB D sl 0 := ⟨_, rfl⟩
          have HPR : Hid (setP D (q.ss[i]'hil) = !pr) := by rw [hpr]; exact hsp
          have kS : ∀ nq os, Calls Tryz.prog 18 #[.agg #[.int .i64 D, .int .i64 M], .slice x1 m1 y1] (grow (wr.drewN nq) os) fun e w' => e = .returned (.bool pr) ∧ ∃ q os', w' = grow ((grow (wr.drewN nq) os).drewN q) os' := fun nq os => by
            have := refrises_any (grow (wr.drewN nq) os) (.slice x1 m1 y1) sl D M (r1.below (Grows.below ⟨nq, os, rfl⟩))
            rw [hpr]
            exact this
          have z0 := fun nq os => cell_gro HQ3.out.s.1 nq os
          have z1 := fun nq os => cell_gro HQ3.out.s.2 nq os
          have z9 := fun nq os => cell_gro f9 nq os
          have ze := fun nq os => cell_gro ce nq os
          have HIL : Hid (i < q.ss.length) := hil
          clear rs hd hc r1 ce hsp h1 hss hpr
          cases pr with
          | false =>
            go_wp2_with fail
            clear f9
            refine wp_region_quiet_grown (by assumption) (by kernel_rfl) ?_
            repeat (go_big_quiet_step (first | (go_at_call 18; with_reducible refine Calls.grown_of (kS _ _))))
            refine wpQuiet_nil ?_
            intro T hw'
            obtain ⟨⟨nq, osq⟩, hw''⟩ := hw'
            have HGT : Hid (Below w.heap.size w T) := HG3.out.trans ((Grows.below ⟨nq, osq, hw''⟩).mono HG3.out.size)
            clear hw'' kS z0 z1 z9 ze
            go_wp2_with fail
            go_returns
            exact RTells.at 4 (by omega) U4.out (HW4.out.trans (HIT.out (by rw [HPR.out]; rfl))) (by omega) rfl HGT.out
          | true =>
            go_wp2_with fail
            clear f9
            refine wp_region_quiet_grown (by assumption) (by kernel_rfl) ?_
            repeat (go_big_quiet_step (first | (go_at_call 18; with_reducible refine Calls.grown_of (kS _ _))))
            refine wpQuiet_nil ?_
            intro T hw'
            obtain ⟨⟨nq, osq⟩, hw''⟩ := hw'
            have HGT : Hid (Grows w2 T) := Grows.trans HG.out ⟨nq, osq, hw''⟩
            clear hw'' kS z0 z1 z9 ze
            go_wp2_with fail
            go_roundg (n3 - (i + 1))
            case measure => omega
            case rel => exact ⟨i + 1, by go_num, by omega, Nat.le_refl _, (fun j hj hl => by
              rcases Nat.lt_or_eq_of_le (Nat.le_of_lt_succ hl) with h1 | h1
              · exact HR.out j hj h1
              · exact HS.out _ (by rw [HPR.out]; rfl) j hj h1), HGT⟩
        · have hltz : ¬ (i : Int) < (n3 : Int) := by omega
          have U5 : Hid (∀ j, j < 5 → look D M q j = -1) := upto_step U4.out (HW4.out.trans (idxL_none fun j hj => HR.out j hj (by have := HN.out.1; omega)))
          have f10 : wr.cell? ⟨w.heap.size + 1, 10, none⟩ = some (.slice a4 n4 c4) := by rw [← HE.out.2.2.2]; exact HQ3.out.c 10 _ rfl
          have hn4 := HN.out.2.2.2
          by_cases v3 : (16 : Int) < (n4 : Int)
          · have HL : Hid (look D M q 5 = 0) := by show wagg _ _ _ = _; unfold wagg; rw [if_pos (by have := HN.out.2.1; omega)]
            go_wp2_with fail
            go_returns
            exact RTells.at 5 (by omega) U5.out HL.out (by decide) rfl HG3.out
          have HW5 : Hid (look D M q 5 = idxL (aggP D M) q.ag) := by show wagg _ _ _ = _; unfold wagg; rw [if_neg (by have := HN.out.2.1; omega)]
          obtain ⟨w3, hw3⟩ : ∃ w3, w3 = wr := ⟨_, rfl⟩
          subst hw3
          go_wp2_with fail
          clear f9 f10 HG HR
          go_loopg [9] n4 (fun kx v9 wr => ∃ (k : Nat), v9 = .int .i64 k ∧ k ≤ n4 ∧ n4 - k ≤ kx ∧ Hid (∀ j (hj : j < q.ag.length), j < k → aggP D M q.ag[j] = false) ∧ Hid (Grows w3 wr))
          case atStart => exact ⟨0, rfl, by omega, Nat.le_refl _, (fun _ _ h => by omega), Grows.refl _⟩
          case round =>
            obtain ⟨k, rfl, hk, hky, HR, HG⟩ := hrel
            have HQ4 : Hid (QB wr w.heap.size (w.heap.size + 1) D M q) := HQ3.out.up (Grows.below HG.out)
            have HG4 : Hid (Below w.heap.size w wr) := HG3.out.trans ((Grows.below HG.out).mono HG3.out.size)
            have f10 : wr.cell? ⟨w.heap.size + 1, 10, none⟩ = some (.slice a4 n4 c4) := by rw [← HE.out.2.2.2]; exact HQ4.out.c 10 _ rfl
            by_cases hlt2 : k < n4
            · have hltz2 : (k : Int) < (n4 : Int) := by omega
              have hil : k < q.ag.length := by have := HN.out.2.1; omega
              have ra := HQ4.out.ok.a
              rw [HE.out.2.2.2] at ra
              obtain ⟨-, -, -, -, hd, -⟩ := ra.cells (by decide)
              obtain ⟨b4, o4, rfl, hc⟩ := hd (by omega)
              obtain ⟨ga, gb⟩ := Ag.av_get q.ag k hil
              have ca := hc _ _ ga
              have cb := hc _ _ gb
              rw [← Nat.add_assoc] at cb
              have HS : Hid (∀ b, aggP D M (q.ag[k]'hil) = b → ∀ j (hj : j < q.ag.length), j = k → aggP D M q.ag[j] = b) := fun b hb j hj e => by subst e; exact hb
              have HIT : Hid (aggP D M (q.ag[k]'hil) = true → idxL (aggP D M) q.ag = k) := fun hb => idxL_hit hil (fun j hj => HR.out j (by omega) hj) hb
              obtain ⟨ak, hak⟩ : ∃ ak, ak = (q.ag[k]'hil).1 := ⟨_, rfl⟩
              obtain ⟨ac, hac⟩ : ∃ ac, ac = (q.ag[k]'hil).2 := ⟨_, rfl⟩
              rw [← hak] at ca
              rw [← hac] at cb
              obtain ⟨pr, hpr⟩ : ∃ pr, pr = Ag.fitv D M ak ac := ⟨_, rfl⟩
              have HPR : Hid (aggP D M (q.ag[k]'hil) = !pr) := by rw [hpr, hak, hac]; rfl
              have kF : ∀ nq os, Calls Tryz.prog 19 #[.agg #[.int .i64 D, .int .i64 M], .agg #[.int .i64 ak, .int .i64 ac]] (grow (wr.drewN nq) os) fun e w' => e = .returned (.bool pr) ∧ ∃ q os', w' = grow ((grow (wr.drewN nq) os).drewN q) os' := fun nq os => by
                have := Ag.reffine_any (grow (wr.drewN nq) os) D M ak ac
                rw [hpr]
                exact this
              have z0 := fun nq os => cell_gro HQ4.out.s.1 nq os
              have z1 := fun nq os => cell_gro HQ4.out.s.2 nq os
              have z9 := fun nq os => cell_gro f10 nq os
              have ya := fun nq os => cell_gro ca nq os
              have yb := fun nq os => cell_gro cb nq os
              clear ra hd hc ca cb hak hac hpr ga gb
              cases pr with
              | false =>
                go_wp2_with fail
                clear f10
                refine wp_region_quiet_grown (by assumption) (by kernel_rfl) ?_
                repeat (go_big_quiet_step (first | (go_at_call 19; with_reducible refine Calls.grown_of (kF _ _))))
                refine wpQuiet_nil ?_
                intro T hw'
                obtain ⟨⟨nq, osq⟩, hw''⟩ := hw'
                have HGT : Hid (Below w.heap.size w T) := HG4.out.trans ((Grows.below ⟨nq, osq, hw''⟩).mono HG4.out.size)
                clear hw'' kF z0 z1 z9 ya yb
                go_wp2_with fail
                go_returns
                exact RTells.at 5 (by omega) U5.out (HW5.out.trans (HIT.out (by rw [HPR.out]; rfl))) (by omega) rfl HGT.out
              | true =>
                go_wp2_with fail
                clear f10
                refine wp_region_quiet_grown (by assumption) (by kernel_rfl) ?_
                repeat (go_big_quiet_step (first | (go_at_call 19; with_reducible refine Calls.grown_of (kF _ _))))
                refine wpQuiet_nil ?_
                intro T hw'
                obtain ⟨⟨nq, osq⟩, hw''⟩ := hw'
                have HGT : Hid (Grows w3 T) := Grows.trans HG.out ⟨nq, osq, hw''⟩
                clear hw'' kF z0 z1 z9 ya yb
                go_wp2_with fail
                go_roundg (n4 - (k + 1))
                case measure => omega
                case rel => exact ⟨k + 1, by go_num, by omega, Nat.le_refl _, (fun j hj hl => by
                  rcases Nat.lt_or_eq_of_le (Nat.le_of_lt_succ hl) with h1 | h1
                  · exact HR.out j hj h1
                  · exact HS.out _ (by rw [HPR.out]; rfl) j hj h1), HGT⟩
            · have hltz2 : ¬ (k : Int) < (n4 : Int) := by omega
              have U6 : Hid (∀ j, j < 6 → look D M q j = -1) := upto_step U5.out (HW5.out.trans (idxL_none fun j hj => HR.out j hj (by have := HN.out.2.1; omega)))
              have f11 : wr.cell? ⟨w.heap.size + 1, 11, none⟩ = some (.int .i64 q.G) := HQ4.out.c 11 _ rfl
              have f12 : wr.cell? ⟨w.heap.size + 1, 12, none⟩ = some (.int .i64 q.R) := HQ4.out.c 12 _ rfl
              by_cases x1 : q.G < 1
              · have HL : Hid (look D M q 6 = 0) := by show unl _ = _; rw [decide_eq_false (by omega)]; rfl
                go_wp2_with fail
                go_returns
                exact RTells.at 6 (by omega) U6.out HL.out (by decide) rfl HG4.out
              by_cases x2 : 10000 < q.G
              · have HL : Hid (look D M q 6 = 0) := by show unl _ = _; rw [decide_eq_false (by omega)]; rfl
                go_wp2_with fail
                go_returns
                exact RTells.at 6 (by omega) U6.out HL.out (by decide) rfl HG4.out
              have U7 : Hid (∀ j, j < 7 → look D M q j = -1) := upto_step U6.out (by show unl _ = _; rw [decide_eq_true (by omega)]; rfl)
              by_cases x3 : q.R < 0
              · have HL : Hid (look D M q 7 = 0) := by show unl _ = _; rw [decide_eq_false (by omega)]; rfl
                go_wp2_with fail
                go_returns
                exact RTells.at 7 (by omega) U7.out HL.out (by decide) rfl HG4.out
              by_cases x4 : 10000 < q.R
              · have HL : Hid (look D M q 7 = 0) := by show unl _ = _; rw [decide_eq_false (by omega)]; rfl
                go_wp2_with fail
                go_returns
                exact RTells.at 7 (by omega) U7.out HL.out (by decide) rfl HG4.out
              have U8 : Hid (∀ j, j < 8 → look D M q j = -1) := upto_step U7.out (by show unl _ = _; rw [decide_eq_true (by omega)]; rfl)
              go_wp2_with fail
              go_returns
              exact ⟨.inl ⟨U8.out, rfl⟩, HG4.out⟩
end Go.Proofs.YtiiihjihegilnaaGreatDoor
