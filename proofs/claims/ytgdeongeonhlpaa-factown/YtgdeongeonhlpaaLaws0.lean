/- The walk of FactLaws. -/
import Derived.Test.YtgdeongeonhlpaaAwake
namespace Go.Proofs.Ytgdeongeonhlpaa
open Go.RowKit Go.Sort

theorem OneBag.refl (a : List Row) : OneBag a a := fun _ => rfl
theorem OneBag.symm {a b : List Row} (h : OneBag a b) : OneBag b a := fun f => (h f).symm
theorem OneBag.trans {a b c : List Row} (h : OneBag a b) (k : OneBag b c) : OneBag a c := fun f => (h f).trans (k f)
theorem OneBag.app {a a' b b' : List Row} (h : OneBag a a') (k : OneBag b b') : OneBag (a ++ b) (a' ++ b') := fun f => by
  rw [cntR_app, cntR_app, Nat.add_mod, h f, k f, ← Nat.add_mod]
theorem OneBag.swap (a b : List Row) : OneBag (a ++ b) (b ++ a) := fun f => by rw [cntR_app, cntR_app, Nat.add_comm]
theorem OneBag.assoc (a b c : List Row) : OneBag ((a ++ b) ++ c) (a ++ (b ++ c)) := fun f => by rw [List.append_assoc]
theorem IsBag.one {l b : List Row} (h : IsBag l b) : OneBag b l := h.cnt
theorem OneBag.parts (p : En → Bool) : ∀ l : List En, OneBag (rows (l.filter p) ++ rows (l.filter fun e => !p e)) (rows l) := by
  intro l f
  rw [cntR_app]
  congr 1
  induction l with
  | nil => rfl
  | cons e l ih =>
    have e1 : rows (e :: l) = e.row :: rows l := rfl
    by_cases h : p e = true
    · have e2 : rows ((e :: l).filter p) = e.row :: rows (l.filter p) := by rw [List.filter_cons_of_pos h]; rfl
      have e3 : rows ((e :: l).filter fun e => !p e) = rows (l.filter fun e => !p e) := by rw [List.filter_cons_of_neg (by simp [h])]
      rw [e1, e2, e3, cntR_cons, cntR_cons, ← ih]; omega
    · have e2 : rows ((e :: l).filter p) = rows (l.filter p) := by rw [List.filter_cons_of_neg h]
      have e3 : rows ((e :: l).filter fun e => !p e) = e.row :: rows (l.filter fun e => !p e) := by rw [List.filter_cons_of_pos (by simp [h])]; rfl
      rw [e1, e2, e3, cntR_cons, cntR_cons, ← ih]; omega
theorem tot_two {a b l : List Row} (h : IsBag (a ++ b) l) : totM l = (totM a + totM b) % two64 := by
  unfold totM
  rw [h.tot, totR_app, Nat.add_mod]
theorem wrap_tot (a b : List Row) : IntKind.u64.wrap ((totM a : Int) + (totM b : Int)) = (((totM a + totM b) % two64 : Nat) : Int) := wrap_add _ _

/-- A value that reads as rows of this bag. -/
def Bgs (w : World) (v : Value) (r : List Row) (n : Nat) : Prop := ∃ l : List En, RdsM w v l ∧ OneBag (rows l) r ∧ l.length ≤ n
theorem Bgs.below {w w' : World} {v : Value} {r : List Row} {n : Nat} (h : Bgs w v r n) (hb : Below w.heap.size w w') : Bgs w' v r n := by
  obtain ⟨l, h1, h2, h3⟩ := h
  exact ⟨l, h1.below hb, h2, h3⟩
theorem RdsM.bgs {w : World} {v : Value} {l : List En} (h : RdsM w v l) {n : Nat} (hn : l.length ≤ n) : Bgs w v (rows l) n := ⟨l, h, OneBag.refl _, hn⟩
theorem Bgs.sl {w : World} {v : Value} {r : List Row} {n : Nat} (h : Bgs w v r n) : ∃ a k c, v = .slice a k c := by obtain ⟨l, h1, _⟩ := h; exact h1.sl
theorem join_bgs (w : World) {va vb : Value} {ra rb : List Row} {na nb : Nat} (ha : Bgs w va ra na) (hb : Bgs w vb rb nb) (hn : na + nb ≤ 1000) :
    Calls Try.prog 19 #[va, vb] w fun e w' => ∃ v', e = .returned v' ∧ Bgs w' v' (ra ++ rb) (na + nb) ∧ Below w.heap.size w w' := by
  obtain ⟨a, h1, h2, h3⟩ := ha
  obtain ⟨b, k1, k2, k3⟩ := hb
  refine (join_any w va vb a b h1 k1 (by omega)).mono ?_
  rintro e w' ⟨v', rfl, l', om, hl, hib, hb⟩
  exact ⟨v', rfl, ⟨l', om.ok, hib.one.trans (h2.app k2), by omega⟩, hb⟩
theorem same_bgs (w : World) {va vb : Value} {ra rb : List Row} {na nb : Nat} (ha : Bgs w va ra na) (hb : Bgs w vb rb nb) (hna : na ≤ 1000) (hnb : nb ≤ 1000) (h : OneBag ra rb) :
    Calls Try.prog 21 #[va, vb] w fun e w' => e = .returned (.bool true) ∧ Below w.heap.size w w' := by
  obtain ⟨a, h1, h2, h3⟩ := ha
  obtain ⟨b, k1, k2, k3⟩ := hb
  refine (same_any w va vb a b h1 k1 (by omega) (by omega)).mono ?_
  rintro e w' ⟨B, rfl, hB, hb⟩
  have : B = true := hB.2 ((h2.trans h).trans k2.symm)
  subst this
  exact ⟨rfl, hb⟩

set_option maxRecDepth 100000 in
set_option maxHeartbeats 8000000 in
theorem laws_walk (w : World) (va vb vc : Value) (a b c : List En) (F T : Int) (ha : RdsM w va a) (hb : RdsM w vb b) (hc : RdsM w vc c) :
    Calls Try.prog 6 #[va, vb, vc, .agg #[.int .i64 F, .int .i64 T]] w fun e w' => e = .returned (.bool true) ∧ Below w.heap.size w w' := by
  obtain ⟨aa, na, ca, rfl⟩ := ha.sl
  obtain ⟨ab, nb, cb, rfl⟩ := hb.sl
  obtain ⟨ac, nc, cc, rfl⟩ := hc.sl
  obtain ⟨ea, a1, a2⟩ := ha.len
  obtain ⟨eb, b1, b2⟩ := hb.len
  obtain ⟨ec, c1, c2⟩ := hc.len
  obtain ⟨W, hW⟩ : ∃ W, W = w.alloc (.cells #[.int .i64 F, .int .i64 T] 43) := ⟨_, rfl⟩
  have bW : Below w.heap.size w W := by rw [hW]; exact (Below.refl _ _).alloc (Nat.le_refl _) _
  have zW : w.heap.size < W.heap.size := by rw [hW]; simp
  have hbox : ∀ w5, Below W.heap.size W w5 → w5.cell? ⟨w.heap.size, 0, none⟩ = some (.int .i64 F) ∧ w5.cell? ⟨w.heap.size, 1, none⟩ = some (.int .i64 T) := fun w5 h5 => by
    refine ⟨?_, ?_⟩ <;> (rw [h5.cell (by exact zW), hW]; simp)
  have HBX : Aside _ := hbox
  have kA := awake_any W
  have HA : Hid (RdsM W (.slice aa na ca) a) := ha.below bW
  have HB : Hid (RdsM W (.slice ab nb cb) b) := hb.below bW
  have HC : Hid (RdsM W (.slice ac nc cc) c) := hc.below bW
  have HN : Hid (na = a.length ∧ nb = b.length ∧ nc = c.length) := ⟨ea, eb, ec⟩
  have HBW : Hid (Below w.heap.size w W) := bW
  have HW : Hid _ := hW
  rw [hW] at kA
  clear ha hb hc ea eb ec hbox hW bW zW
  go_enter Try.func6, Try.ntmps6
  go_wp2_with fail
  refine kA.mono ?_
  rintro e w1 ⟨rfl, d1⟩
  rw [← HW.out] at d1
  have HD1 : Hid (Below W.heap.size W w1) := d1
  have fin : ∀ w5, Below W.heap.size W w5 → Below w.heap.size w w5 := fun w5 h5 => HBW.out.trans (h5.mono HBW.out.size)
  have FIN : Aside _ := fin
  clear kA d1 fin
  by_cases g1 : (200 : Int) < (na : Int)
  · go_wp2_with fail
    go_ret
    exact ⟨rfl, FIN.out _ HD1.out⟩
  · by_cases g2 : (200 : Int) < (nb : Int)
    · go_wp2_with fail
      go_ret
      exact ⟨rfl, FIN.out _ HD1.out⟩
    · by_cases g3 : (200 : Int) < (nc : Int)
      · go_wp2_with fail
        go_ret
        exact ⟨rfl, FIN.out _ HD1.out⟩
      · have la : a.length ≤ 200 := by have := HN.out; omega
        have lb : b.length ≤ 200 := by have := HN.out; omega
        have lc : c.length ≤ 200 := by have := HN.out; omega
        obtain ⟨A, hA⟩ : ∃ A, A = rows a := ⟨_, rfl⟩
        obtain ⟨B, hB⟩ : ∃ B, B = rows b := ⟨_, rfl⟩
        obtain ⟨C, hC⟩ : ∃ C, C = rows c := ⟨_, rfl⟩
        have pA : ∀ w5, Below W.heap.size W w5 → Bgs w5 (.slice aa na ca) A 200 := fun w5 h5 => by rw [hA]; exact (RdsM.below HA.out h5).bgs la
        have pB : ∀ w5, Below W.heap.size W w5 → Bgs w5 (.slice ab nb cb) B 200 := fun w5 h5 => by rw [hB]; exact (RdsM.below HB.out h5).bgs lb
        have pC : ∀ w5, Below W.heap.size W w5 → Bgs w5 (.slice ac nc cc) C 200 := fun w5 h5 => by rw [hC]; exact (RdsM.below HC.out h5).bgs lc
        have PA : Aside _ := pA
        have PB : Aside _ := pB
        have PC : Aside _ := pC
        have HABC : Hid (A = rows a ∧ B = rows b ∧ C = rows c ∧ a.length ≤ 200) := ⟨hA, hB, hC, la⟩
        clear pA pB pC hA hB hC la lb lc
        have k1 := join_bgs w1 (PA.out _ HD1.out) (PB.out _ HD1.out) (by omega)
        go_wp2_with fail
        refine k1.mono ?_
        rintro e w2 ⟨v2, rfl, r2, d2⟩
        have D2 : Below W.heap.size W w2 := HD1.out.trans (d2.mono HD1.out.size)
        have k2 := join_bgs w2 (PB.out _ D2) (PA.out _ D2) (by omega)
        clear k1
        go_wp2_with fail
        refine k2.mono ?_
        rintro e w3 ⟨v3, rfl, r3, d3⟩
        have D3 : Below W.heap.size W w3 := D2.trans (d3.mono D2.size)
        have k3 := same_bgs w3 (r2.below d3) r3 (by omega) (by omega) (OneBag.swap A B)
        clear k2
        go_wp2_with fail
        refine k3.mono ?_
        rintro e w4 ⟨rfl, d4⟩
        have D4 : Below W.heap.size W w4 := D3.trans (d4.mono D3.size)
        have k4 := join_bgs w4 (PA.out _ D4) (PB.out _ D4) (by omega)
        clear k3 r2 r3 d2 d3 d4 D2 D3
        go_wp2_with fail
        refine k4.mono ?_
        rintro e w5 ⟨v5, rfl, r5, d5⟩
        have D5 : Below W.heap.size W w5 := D4.trans (d5.mono D4.size)
        have k5 := join_bgs w5 r5 (PC.out _ D5) (by omega)
        clear k4
        go_wp2_with fail
        refine k5.mono ?_
        rintro e w6 ⟨v6, rfl, r6, d6⟩
        have D6 : Below W.heap.size W w6 := D5.trans (d6.mono D5.size)
        have k6 := join_bgs w6 (PB.out _ D6) (PC.out _ D6) (by omega)
        clear k5 r5
        go_wp2_with fail
        refine k6.mono ?_
        rintro e w7 ⟨v7, rfl, r7, d7⟩
        have D7 : Below W.heap.size W w7 := D6.trans (d7.mono D6.size)
        have k7 := join_bgs w7 (PA.out _ D7) r7 (by omega)
        clear k6
        go_wp2_with fail
        refine k7.mono ?_
        rintro e w8 ⟨v8, rfl, r8, d8⟩
        have D8 : Below W.heap.size W w8 := D7.trans (d8.mono D7.size)
        have k8 := same_bgs w8 ((r6.below d7).below d8) r8 (by omega) (by omega) (OneBag.assoc A B C)
        clear k7
        go_wp2_with fail
        refine k8.mono ?_
        rintro e V ⟨rfl, d9⟩
        have DV : Below W.heap.size W V := D8.trans (d9.mono D8.size)
        clear k8 r6 r7 r8 d5 d6 d7 d8 d9 D4 D5 D6 D7 D8
        have HDV : Hid (Below W.heap.size W V) := DV
        have kW : ∀ w', Below V.heap.size V w' → Calls Try.prog 22 #[.slice aa na ca, .agg #[.int .i64 F, .int .i64 T]] w' fun e w'' => ∃ v', e = .returned v' ∧ Bgs w'' v' (rows (a.filter fun e => inS F T e.f.t)) 200 ∧ Below V.heap.size V w'' ∧ Below w'.heap.size w' w'' := fun w' hb => by
          have hD := DV.trans (hb.mono DV.size)
          refine (within_any w' _ a F T (RdsM.below HA.out hD) (by have := HABC.out.2.2.2; omega)).mono ?_
          rintro e w'' ⟨v', rfl, l', om, hl, hib, hb'⟩
          exact ⟨v', rfl, ⟨l', om.ok, hib.one, by have := HABC.out.2.2.2; omega⟩, hb.trans (hb'.mono hb.size), hb'⟩
        have kU : ∀ w', Below V.heap.size V w' → Calls Try.prog 24 #[.slice aa na ca, .agg #[.int .i64 F, .int .i64 T]] w' fun e w'' => ∃ v', e = .returned v' ∧ Bgs w'' v' (rows (a.filter fun e => !inS F T e.f.t)) 200 ∧ Below V.heap.size V w'' ∧ Below w'.heap.size w' w'' := fun w' hb => by
          have hD := DV.trans (hb.mono DV.size)
          refine (without_any w' _ a F T (RdsM.below HA.out hD) (by have := HABC.out.2.2.2; omega)).mono ?_
          rintro e w'' ⟨v', rfl, l', om, hl, hib, hb'⟩
          exact ⟨v', rfl, ⟨l', om.ok, hib.one, by have := HABC.out.2.2.2; omega⟩, hb.trans (hb'.mono hb.size), hb'⟩
        have hpt := OneBag.parts (fun e : En => inS F T e.f.t) a
        obtain ⟨X, hX⟩ : ∃ X, X = rows (a.filter fun e => inS F T e.f.t) := ⟨_, rfl⟩
        obtain ⟨Y, hY⟩ : ∃ Y, Y = rows (a.filter fun e => !inS F T e.f.t) := ⟨_, rfl⟩
        rw [← hX] at kW hpt
        rw [← hY] at kU hpt
        have kJ : ∀ w' v1 v2, Bgs w' v1 X 200 → Bgs w' v2 Y 200 → Below V.heap.size V w' → Calls Try.prog 19 #[v1, v2] w' fun e w'' => ∃ v', e = .returned v' ∧ Bgs w'' v' (X ++ Y) 400 ∧ Below V.heap.size V w'' := fun w' v1 v2 h1 h2 hb =>
          (join_bgs w' h1 h2 (by omega)).mono fun e w'' ⟨v', he, h3, hb'⟩ => ⟨v', he, h3, hb.trans (hb'.mono hb.size)⟩
        have kS : ∀ w' v1, Bgs w' v1 (X ++ Y) 400 → Below V.heap.size V w' → Calls Try.prog 21 #[v1, .slice aa na ca] w' fun e w'' => e = .returned (.bool true) ∧ Below V.heap.size V w'' := fun w' v1 h1 hb => by
          have hD := DV.trans (hb.mono DV.size)
          exact (same_bgs w' h1 (PA.out _ hD) (by omega) (by omega) (by rw [HABC.out.1]; exact hpt)).mono fun e w'' ⟨he, hb'⟩ => ⟨he, hb.trans (hb'.mono hb.size)⟩
        have bx : ∀ w', Below V.heap.size V w' → w'.cell? ⟨w.heap.size, 0, none⟩ = some (.int .i64 F) ∧ w'.cell? ⟨w.heap.size, 1, none⟩ = some (.int .i64 T) := fun w' hb => HBX.out w' (DV.trans (hb.mono DV.size))
        have q0 : Below V.heap.size V V.drew := (Below.refl _ _).drew
        obtain ⟨x0, x1⟩ := bx _ q0
        clear DV hpt hX hY
        go_wp2_with fail
        go_cut [12] (fun t wA => t = .bool true ∧ Below V.heap.size V wA)
        case first =>
          clear PA PB PC HA HB HC HBX FIN
          go_region_with (first
            | (go_at_call 22; with_reducible refine (kW _ (by assumption)).mono ?_; rintro e2 u2 ⟨z1, rfl, r1, p1, s1⟩; obtain ⟨t1, t2⟩ := bx _ p1; (try (have r2' := Bgs.below r2 s1)))
            | (go_at_call 24; with_reducible refine (kU _ (by assumption)).mono ?_; rintro e3 u3 ⟨z2, rfl, r2, p2, s2⟩; obtain ⟨t3, t4⟩ := bx _ p2; (try (have r1' := Bgs.below r1 s2)))
            | (go_at_call 19; with_reducible refine (kJ _ _ _ (by assumption) (by assumption) (by assumption)).mono ?_; rintro e4 u4 ⟨z3, rfl, r3, p3⟩)
            | (go_at_call 21; with_reducible refine (kS _ _ (by assumption) (by assumption)).mono ?_; rintro e5 u5 ⟨rfl, p4⟩))
          all_goals
            go_wp2_with fail
            go_meet
            case rel => exact ⟨rfl, p4⟩
        case rest =>
          obtain ⟨rfl, bA⟩ := hcut
          rename World => U
          have DU : Below W.heap.size W U := HDV.out.trans (bA.mono HDV.out.size)
          have HDU : Hid (Below W.heap.size W U) := DU
          clear kW kU kJ kS bx q0 x0 x1 bA
          have kj := join_any U _ _ a b (RdsM.below HA.out DU) (RdsM.below HB.out DU) (by have := HN.out; omega)
          go_wp2_with fail
          refine kj.mono ?_
          rintro e w10 ⟨v10, rfl, l10, om, hl, hib, d10⟩
          have D10 : Below W.heap.size W w10 := DU.trans (d10.mono DU.size)
          have kc1 := count_any w10 v10 l10 om.ok
          have ht := tot_two hib
          rw [ht] at kc1
          clear kj
          go_wp2_with fail
          refine kc1.mono ?_
          rintro e w11 ⟨rfl, d11⟩
          have D11 : Below W.heap.size W w11 := D10.trans (d11.mono D10.size)
          have kc2 := count_any w11 _ a (RdsM.below HA.out D11)
          clear kc1
          go_wp2_with fail
          refine kc2.mono ?_
          rintro e w12 ⟨rfl, d12⟩
          have D12 : Below W.heap.size W w12 := D11.trans (d12.mono D11.size)
          have kc3 := count_any w12 _ b (RdsM.below HB.out D12)
          clear kc2
          go_wp2_with fail
          refine kc3.mono ?_
          rintro e w13 ⟨rfl, d13⟩
          have D13 : Below W.heap.size W w13 := D12.trans (d13.mono D12.size)
          have hwr := wrap_tot (rows a) (rows b)
          have HWR : Hid _ := hwr
          clear kc3 ht hwr
          go_wp2_with fail
          go_ret
          refine ⟨?_, FIN.out _ D13⟩
          have := HWR.out
          simp [this]
end Go.Proofs.Ytgdeongeonhlpaa
