/- The walk of FactOrders. -/
import Derived.Test.YtgdeongeonhlpaaAwake
namespace Go.Proofs.Ytgdeongeonhlpaa
open Go.RowKit Go.Sort

theorem ones_tot (l : List Fc) : totR (ones l) = l.length := by
  induction l with
  | nil => rfl
  | cons f l ih =>
    have e : ones (f :: l) = (f.ft, 1) :: ones l := rfl
    rw [e, totR_cons, ih, List.length_cons]; omega
theorem ones_count {l : List Fc} {l' : List En} (h : IsBag (ones l) (rows l')) (hl : l.length < 18446744073709551616) : totM (rows l') = l.length := by
  unfold totM
  rw [h.tot, ones_tot]
  exact Nat.mod_eq_of_lt hl
/-- What is asked of three comparisons holds of the order of facts. -/
theorem order_ok (a b c : Ft) : cmpF a b = - cmpF b a ∧ (cmpF a b ≤ 0 → cmpF b c ≤ 0 → ¬ 0 < cmpF a c) ∧ (0 ≤ cmpF a b → 0 ≤ cmpF b c → ¬ cmpF a c < 0) ∧ (cmpF a b < 0 → cmpF b c < 0 → ¬ 0 ≤ cmpF a c) := by
  have h := cmpF_ord
  have s := h.swo
  have ab := h.anti a b
  have bc := h.anti b c
  have ac := h.anti a c
  refine ⟨by have := h.anti b a; omega, fun h1 h2 => ?_, fun h1 h2 => ?_, fun h1 h2 => ?_⟩
  · have n1 : ¬ cmpF c b < 0 := by omega
    have n2 : ¬ cmpF b a < 0 := by omega
    have := of_decide_eq_false (s.ntrans c b a (decide_eq_false n1) (decide_eq_false n2))
    omega
  · exact of_decide_eq_false (s.ntrans a b c (decide_eq_false (by omega)) (decide_eq_false (by omega)))
  · have := h.tr a b c h1 h2
    omega
theorem bag_ris {l' : List En} (h : Bg (rows l')) (i : Nat) (h1 : 0 < i) (h2 : i < l'.length) : cmpF (l'[i - 1]'(by omega)).f.ft l'[i].f.ft < 0 := by
  have := List.pairwise_iff_getElem.1 h.ris (i - 1) i (by rw [rows_length]; omega) (by rw [rows_length]; exact h2) (by omega)
  simpa [rows, En.row] using this

set_option maxRecDepth 100000 in
set_option maxHeartbeats 8000000 in
theorem orders_walk (w : World) (vl : Value) (a b c : Fc) (l : List Fc) (ha : a.Ok w) (hb : b.Ok w) (hc : c.Ok w) (hl : RdsF w vl l) (hbig : l.length * 56 ≤ 140737488351232) :
    Calls Try.prog 7 #[.agg #[.int .i64 a.t, a.dv, a.mv], .agg #[.int .i64 b.t, b.dv, b.mv], .agg #[.int .i64 c.t, c.dv, c.mv], vl] w fun e w' => e = .returned (.bool true) ∧ Below w.heap.size w w' := by
  obtain ⟨al, nl, cl, rfl⟩ := hl.sl
  obtain ⟨el, l1, l2⟩ := hl.len
  obtain ⟨W1, hW1⟩ : ∃ W, W = w.alloc (.cells #[.int .i64 a.t, a.dv, a.mv] 27) := ⟨_, rfl⟩
  obtain ⟨W2, hW2⟩ : ∃ W, W = W1.alloc (.cells #[.int .i64 b.t, b.dv, b.mv] 27) := ⟨_, rfl⟩
  obtain ⟨W, hW3⟩ : ∃ W, W = W2.alloc (.cells #[.int .i64 c.t, c.dv, c.mv] 27) := ⟨_, rfl⟩
  have z1 : W1.heap.size = w.heap.size + 1 := by rw [hW1]; simp
  have z2 : W2.heap.size = w.heap.size + 2 := by rw [hW2]; simp [z1]
  have bW : Below w.heap.size w W := by rw [hW3, hW2, hW1]; exact (((Below.refl _ _).alloc (Nat.le_refl _) _).alloc (by simp) _).alloc (by rw [← hW1, ← hW2]; omega) _
  have up1 : ∀ {p : Addr} {v : Value}, W1.cell? p = some v → W.cell? p = some v := fun h => by rw [hW3, hW2]; exact cell_alloc_sl _ (cell_alloc_sl _ h)
  have up2 : ∀ {p : Addr} {v : Value}, W2.cell? p = some v → W.cell? p = some v := fun h => by rw [hW3]; exact cell_alloc_sl _ h
  have n1 : ∀ (o : Nat) {v : Value}, (#[Value.int .i64 a.t, a.dv, a.mv])[o]? = some v → W.cell? ⟨w.heap.size, o, none⟩ = some v := fun o {v} h => up1 (by rw [hW1]; exact al_new _ _ _ rfl h)
  have n2 : ∀ (o : Nat) {v : Value}, (#[Value.int .i64 b.t, b.dv, b.mv])[o]? = some v → W.cell? ⟨w.heap.size + 1, o, none⟩ = some v := fun o {v} h => up2 (by rw [hW2]; exact al_new _ _ _ z1.symm h)
  have n3 : ∀ (o : Nat) {v : Value}, (#[Value.int .i64 c.t, c.dv, c.mv])[o]? = some v → W.cell? ⟨w.heap.size + 2, o, none⟩ = some v := fun o {v} h => by rw [hW3]; exact al_new _ _ _ z2.symm h
  have hbox : ∀ w5, Below W.heap.size W w5 → (w5.cell? ⟨w.heap.size, 0, none⟩ = some (.int .i64 a.t) ∧ w5.cell? ⟨w.heap.size, 1, none⟩ = some a.dv ∧ w5.cell? ⟨w.heap.size, 2, none⟩ = some a.mv) ∧ (w5.cell? ⟨w.heap.size + 1, 0, none⟩ = some (.int .i64 b.t) ∧ w5.cell? ⟨w.heap.size + 1, 1, none⟩ = some b.dv ∧ w5.cell? ⟨w.heap.size + 1, 2, none⟩ = some b.mv) ∧ w5.cell? ⟨w.heap.size + 2, 0, none⟩ = some (.int .i64 c.t) ∧ w5.cell? ⟨w.heap.size + 2, 1, none⟩ = some c.dv ∧ w5.cell? ⟨w.heap.size + 2, 2, none⟩ = some c.mv := fun w5 h5 => by
    have up : ∀ {p : Addr} {v : Value}, W.cell? p = some v → w5.cell? p = some v := fun {p v} h => by rw [h5.cell (World.block_lt_of_cell? _ _ h)]; exact h
    exact ⟨⟨up (n1 0 rfl), up (n1 1 rfl), up (n1 2 rfl)⟩, ⟨up (n2 0 rfl), up (n2 1 rfl), up (n2 2 rfl)⟩, up (n3 0 rfl), up (n3 1 rfl), up (n3 2 rfl)⟩
  have HBX : Aside _ := hbox
  have kA := awake_any W
  have HO : Hid (a.Ok W ∧ b.Ok W ∧ c.Ok W) := ⟨ha.below bW, hb.below bW, hc.below bW⟩
  have HL : Hid (RdsF W (.slice al nl cl) l) := hl.below bW
  have HN : Hid (nl = l.length) := el
  have hnl : nl * 56 ≤ 140737488351232 := by omega
  have HBW : Hid (Below w.heap.size w W) := bW
  have HW : Hid (W = ((w.alloc (.cells #[.int .i64 a.t, a.dv, a.mv] 27)).alloc (.cells #[.int .i64 b.t, b.dv, b.mv] 27)).alloc (.cells #[.int .i64 c.t, c.dv, c.mv] 27)) := by show W = _; rw [hW3, hW2, hW1]
  rw [HW.out] at kA
  have fin : ∀ w5, Below W.heap.size W w5 → Below w.heap.size w w5 := fun w5 h5 => HBW.out.trans (h5.mono HBW.out.size)
  have FIN : Aside _ := fin
  have HORD : Hid _ := order_ok a.ft b.ft c.ft
  clear ha hb hc hl hbox bW hW1 hW2 hW3 n1 n2 n3 up1 up2 z1 z2 el fin hbig
  go_enter Try.func7, Try.ntmps7
  go_wp2_with fail
  refine kA.mono ?_
  rintro e w1 ⟨rfl, d1⟩
  rw [← HW.out] at d1
  have D1 : Below W.heap.size W w1 := d1
  obtain ⟨⟨x0, x1, x2⟩, ⟨y0, y1, y2⟩, q0, q1, q2⟩ := HBX.out w1 D1
  have k1 := compare_any w1 a b (HO.out.1.below D1) (HO.out.2.1.below D1)
  unfold Fc.val at k1
  clear kA d1
  go_wp2_with fail
  refine k1.mono ?_
  rintro e w2 ⟨rfl, g2⟩
  have D2 : Below W.heap.size W w2 := D1.trans (g2.below.mono D1.size)
  clear k1 g2 x0 x1 x2 y0 y1 y2 q0 q1 q2
  obtain ⟨⟨x0, x1, x2⟩, ⟨y0, y1, y2⟩, q0, q1, q2⟩ := HBX.out w2 D2
  have k2 := compare_any w2 b c (HO.out.2.1.below D2) (HO.out.2.2.below D2)
  unfold Fc.val at k2
  go_wp2_with fail
  refine k2.mono ?_
  rintro e w3 ⟨rfl, g3⟩
  have D3 : Below W.heap.size W w3 := D2.trans (g3.below.mono D2.size)
  clear k2 g3 x0 x1 x2 y0 y1 y2 q0 q1 q2
  obtain ⟨⟨x0, x1, x2⟩, ⟨y0, y1, y2⟩, q0, q1, q2⟩ := HBX.out w3 D3
  have k3 := compare_any w3 a c (HO.out.1.below D3) (HO.out.2.2.below D3)
  unfold Fc.val at k3
  go_wp2_with fail
  refine k3.mono ?_
  rintro e w4 ⟨rfl, g4⟩
  have D4 : Below W.heap.size W w4 := D3.trans (g4.below.mono D3.size)
  clear k3 g4 x0 x1 x2 y0 y1 y2 q0 q1 q2
  obtain ⟨⟨x0, x1, x2⟩, ⟨y0, y1, y2⟩, q0, q1, q2⟩ := HBX.out w4 D4
  have k4 := compare_any w4 b a (HO.out.2.1.below D4) (HO.out.1.below D4)
  unfold Fc.val at k4
  have r1 := cmpF_ord.rng a.ft b.ft
  have r2 := cmpF_ord.rng b.ft c.ft
  have r3 := cmpF_ord.rng a.ft c.ft
  have r4 := cmpF_ord.rng b.ft a.ft
  generalize cmpF a.ft b.ft = X at *
  generalize cmpF b.ft c.ft = Y at *
  generalize cmpF a.ft c.ft = Z at *
  generalize cmpF b.ft a.ft = V at *
  go_upto_region 7 with fail
  go_cut [68] (fun t wx => t = .bool false ∧ Below W.heap.size W wx)
  case first =>
    clear HBX FIN HO HL
    obtain ⟨o1, o2, o3, o4⟩ := HORD.out
    subst o1
    rcases r4 with rfl | rfl | rfl <;> rcases r2 with rfl | rfl | rfl <;> rcases r3 with rfl | rfl | rfl
    all_goals
      first
        | (exfalso; omega)
        | (go_wp2_with fail
           refine k4.mono ?_
           rintro e w5 ⟨rfl, g5⟩
           have HD5 : Hid (Below W.heap.size W w5) := D4.trans (g5.below.mono D4.size)
           clear k4 g5
           go_wp2_with fail
           go_meet
           case rel => exact ⟨rfl, HD5.out⟩)
  case rest =>
    obtain ⟨rfl, D5⟩ := hcut
    rename World => w5
    clear k4 x0 x1 x2 y0 y1 y2 q0 q1 q2 r1 r2 r3 r4 HORD D1 D2 D3 D4
    have kB := bag_any w5 _ l (RdsF.below HL.out D5) (by have := HN.out; omega)
    have HD5 : Hid (Below W.heap.size W w5) := D5
    clear D5
    go_wp2_with fail
    refine kB.mono ?_
    rintro e w6 ⟨v6, rfl, m, om, hml, hib, d6⟩
    have D6 : Below W.heap.size W w6 := HD5.out.trans (d6.mono HD5.out.size)
    obtain ⟨am, nm, cm, rfl⟩ := own_sl om.own
    obtain ⟨em, m1, m2⟩ := om.ok.len
    unfold maxLen at m2
    have HM : Hid (RdsM w6 (.slice am nm cm) m ∧ IsBag (ones l) (rows m) ∧ nm = m.length ∧ Below W.heap.size W w6) := ⟨om.ok, hib, em, D6⟩
    clear kB om hib em d6 D6 hml
    go_wp2_with fail
    go_loopg [14] nm (fun kx vi wr => ∃ i : Nat, vi = .int .i64 i ∧ 1 ≤ i ∧ nm - i ≤ kx ∧ Below w6.heap.size w6 wr)
    case atStart => exact ⟨1, rfl, Nat.le_refl _, by omega, Below.refl _ _⟩
    case round =>
      obtain ⟨i, rfl, hi1, hkx, bel⟩ := hrel
      have mixed := slay.mixed
      by_cases hlt : i < nm
      · have hltz : (i : Int) < (nm : Int) := by omega
        have him : i < m.length := by have := HM.out.2.2.1; omega
        have hr := RdsM.below HM.out.1 bel
        obtain ⟨-, -, -, bb, off, rfl, hcell⟩ := hr.at (by omega)
        obtain ⟨p0, p1, p2, p3⟩ := hcell (i - 1) (by omega)
        obtain ⟨s0, s1, s2, s3⟩ := hcell i him
        have ox := hr.ok m[i - 1] (List.getElem_mem _)
        have oy := hr.ok m[i] (List.getElem_mem _)
        have hris := bag_ris HM.out.2.1.bg i (by omega) him
        generalize m[i - 1] = x at *
        generalize m[i] = y at *
        obtain ⟨j, hj⟩ : ∃ j, j = i - 1 := ⟨_, rfl⟩
        rw [← hj] at p0 p1 p2
        have jz : (i : Int) - 1 = (j : Int) := by omega
        have jlt : (j : Int) < (nm : Int) := by omega
        have rj : IntKind.i64.wrap (j : Int) = (j : Int) := by rw [IntKind.wrap_i64]; omega
        have kc : ∀ nq os, Calls Try.prog 14 #[.agg #[.int .i64 x.f.t, x.f.dv, x.f.mv], .agg #[.int .i64 y.f.t, y.f.dv, y.f.mv]] (grow (wr.drewN nq) os) fun e w' => e = .returned (.int .i64 (cmpF x.f.ft y.f.ft)) ∧ ∃ q os', w' = grow ((grow (wr.drewN nq) os).drewN q) os' := fun nq os =>
          compare_any (grow (wr.drewN nq) os) x.f y.f (ox.f.below (below_grown_sl _ wr nq os (Nat.le_refl _))) (oy.f.below (below_grown_sl _ wr nq os (Nat.le_refl _)))
        obtain ⟨C, hC⟩ : ∃ C, C = cmpF x.f.ft y.f.ft := ⟨_, rfl⟩
        rw [← hC] at kc hris
        have hCb : ¬ (0 : Int) ≤ C := by omega
        have p0' := fun nq os => cell_gr p0 nq os
        have p1' := fun nq os => cell_gr p1 nq os
        have p2' := fun nq os => cell_gr p2 nq os
        have s0' := fun nq os => cell_gr s0 nq os
        have s1' := fun nq os => cell_gr s1 nq os
        have s2' := fun nq os => cell_gr s2 nq os
        generalize x.f.t = tx at *
        generalize x.f.dv = dx at *
        generalize x.f.mv = mx at *
        generalize y.f.t = ty at *
        generalize y.f.dv = dy at *
        generalize y.f.mv = my at *
        clear hC ox oy hcell hr p0 p1 p2 p3 s0 s1 s2 s3 hj hris
        go_wp2_with fail
        go_quiet_grown (first | (go_at_call 14; refine Calls.grown_of (kc _ _)))
        go_wp2_with fail
        go_roundg (nm - (i + 1))
        case measure => omega
        case rel => exact ⟨i + 1, by go_num, by omega, Nat.le_refl _, bel.trans (below_grown_sl _ wr nq osq bel.size)⟩
      · have hltz : ¬ (i : Int) < (nm : Int) := by omega
        have kN := count_any wr _ m (RdsM.below HM.out.1 bel)
        have hct : totM (rows m) = nl := by rw [ones_count HM.out.2.1 (by have := HN.out; omega)]; exact HN.out.symm
        rw [hct] at kN
        have HBel : Hid (Below W.heap.size W wr) := HM.out.2.2.2.trans (bel.mono HM.out.2.2.2.size)
        clear hct bel
        go_wp2_with fail
        refine kN.mono ?_
        rintro e w7 ⟨rfl, d7⟩
        have HD7 : Hid (Below W.heap.size W w7) := HBel.out.trans (d7.mono HBel.out.size)
        have hwn : IntKind.u64.wrap (nl : Int) = (nl : Int) := by rw [IntKind.wrap_u64]; omega
        clear kN d7
        go_wp2_with fail
        go_ret
        refine ⟨?_, FIN.out _ HD7.out⟩
        simp
end Go.Proofs.Ytgdeongeonhlpaa
