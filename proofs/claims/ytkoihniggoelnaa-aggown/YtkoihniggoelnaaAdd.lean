/- The contract of Add. -/
import Derived.Test.YtkoihniggoelnaaMrg
namespace Go.Proofs.Ytkoihniggoelnaa
open Go.RowKit Go.Sort

def hasP (k c : Int) (f : Fc) (n : Int) : P0 := if k = 2 then (n, sumV (atI f.ms c) n, []) else if k = 3 ∨ k = 4 then (n, atI f.ms c, []) else if k = 5 then (n, 0, [atS f.ds c]) else (n, 0, [])
def addP (k c : Int) (p : P0) (f : Fc) (n : Int) : P0 := if n = 0 then p else mrgP k p (hasP k c f n)
theorem hasP_n (k c : Int) (f : Fc) (n : Int) : (hasP k c f n).1 = n := by unfold hasP; repeat' split <;> try rfl
theorem hasP_len (k c : Int) (f : Fc) (n : Int) : (hasP k c f n).2.2.length ≤ 1 := by unfold hasP; repeat' split <;> try simp
theorem hasP_5 (c : Int) (f : Fc) (n : Int) : (hasP 5 c f n).2.2 = [atS f.ds c] := by simp [hasP]
def HasC (g : Nat) (k c : Int) : Prop := ∀ (w : World) (f : Fc) (n : Int), f.Ok w → Calls Try.prog g #[.int .i64 c, .agg #[.int .i64 f.t, f.dv, f.mv], .int .u64 n] w (Gives (hasP k c f n) w)
theorem way_has (k c : Int) : ∃ g x0 x2 x3 x4 : Nat, (g = 36 ∨ g = 43 ∨ g = 46 ∨ g = 50) ∧ WayC k c x0 g x2 x3 x4 ∧ HasC g k c := by
  have hcount : (k ≠ 2 ∧ k ≠ 3 ∧ k ≠ 4 ∧ k ≠ 5) → HasC 36 k c := fun hk w f n hf => by
    have : hasP k c f n = (n, 0, []) := by simp [hasP, hk.1, hk.2.1, hk.2.2.1, hk.2.2.2]
    rw [this]; exact countHas_any w c n f hf
  by_cases h1 : k = 1
  · subst h1
    exact ⟨_, _, _, _, _, .inl rfl, fun w => wayOf_1 w c, hcount (by decide)⟩
  · by_cases h2 : k = 2
    · subst h2
      exact ⟨_, _, _, _, _, .inr (.inl rfl), fun w => wayOf_2 w c, fun w f n hf => sumHas_any w c n f hf⟩
    · by_cases h3 : k = 3
      · subst h3
        exact ⟨_, _, _, _, _, .inr (.inr (.inl rfl)), fun w => wayOf_3 w c, fun w f n hf => measureHas_any w c n f hf⟩
      · by_cases h4 : k = 4
        · subst h4
          exact ⟨_, _, _, _, _, .inr (.inr (.inl rfl)), fun w => wayOf_4 w c, fun w f n hf => measureHas_any w c n f hf⟩
        · by_cases h5 : k = 5
          · subst h5
            exact ⟨_, _, _, _, _, .inr (.inr (.inr rfl)), fun w => wayOf_5 w c, fun w f n hf => textHas_any w c n f hf⟩
          · by_cases h0 : k = 0
            · subst h0
              exact ⟨_, _, _, _, _, .inl rfl, fun w => wayOf_0 w c, hcount (by decide)⟩
            · exact ⟨_, _, _, _, _, .inl rfl, fun w => wayOf_no w k (by omega) c, hcount ⟨h2, h3, h4, h5⟩⟩

set_option maxHeartbeats 8000000 in
theorem add_any (w : World) (k c n : Int) (p : Pt) (f : Fc) (hp : p.Ok w) (hf : f.Ok w) (hb1 : p.ts.length * 16 ≤ 160842843834660) (hfit : p.n ≠ 0 → k = 5 → 0 < p.ts.length ∧ p.ts.length ≤ 999) :
    Calls Try.prog 23 #[.agg #[.int .i64 k, .int .i64 c], .agg #[.int .u64 p.n, .int .i64 p.v, p.tv], .agg #[.int .i64 f.t, f.dv, f.mv], .int .u64 n] w (Gives (addP k c p.p0 f n) w) := by
  obtain ⟨W, hW⟩ : ∃ W, W = (((w.alloc (.cells #[.int .i64 k, .int .i64 c] 26)).alloc (.cells #[.int .u64 p.n, .int .i64 p.v, p.tv] 30)).alloc (.cells #[.int .i64 f.t, f.dv, f.mv] 47)).alloc (.cells #[.int .u64 0, .int .i64 0, .slice none 0 0] 30) := ⟨_, rfl⟩
  have gW : Grows w W := by rw [hW]; exact (((Grows.alloc _ _).trans (Grows.alloc _ _)).trans (Grows.alloc _ _)).trans (Grows.alloc _ _)
  have hsz : W.heap.size = w.heap.size + 4 := by rw [hW]; simp
  have hBW : w.heap.size + 1 + 1 + 1 ≤ W.heap.size := by omega
  have hbx : Box3 W (w.heap.size + 1 + 1 + 1) (.int .u64 0) (.int .i64 0) (.slice none 0 0) := by rw [hW]; exact Box3.new _ _ _ _ _ _ (by simp)
  have hq0 : Box3 W (w.heap.size + 1 + 1) (.int .i64 f.t) f.dv f.mv := by
    rw [hW]; exact (Box3.new _ _ _ _ _ _ (by simp)).up ((Below.refl _ _).alloc (Nat.le_refl _) _)
  have hp0 : Box3 W (w.heap.size + 1) (.int .u64 p.n) (.int .i64 p.v) p.tv := by
    rw [hW]; exact (Box3.new _ _ _ _ _ _ (by simp)).up ((Grows.alloc _ _).trans (Grows.alloc _ _)).below
  have ha0 : W.cell? ⟨w.heap.size, 0, none⟩ = some (.int .i64 k) ∧ W.cell? ⟨w.heap.size, 1, none⟩ = some (.int .i64 c) := by
    rw [hW]
    exact ⟨cell_up (((Grows.alloc _ _).trans (Grows.alloc _ _)).trans (Grows.alloc _ _)).below (al_new _ _ _ rfl rfl), cell_up (((Grows.alloc _ _).trans (Grows.alloc _ _)).trans (Grows.alloc _ _)).below (al_new _ _ _ rfl rfl)⟩
  have okp := hp.up gW.below
  have okf := hf.up gW.below
  obtain ⟨a1, n1, c1, e1⟩ := hp.rt.sl
  obtain ⟨ad, nd, cd, am, nm, cm, e2, e3, -⟩ := hf.lens
  have keepS : ∀ X, Below (w.heap.size + 1 + 1 + 1) W X → (fun w' => Below (w.heap.size + 1 + 1 + 1) W w' ∧ w'.cell? ⟨w.heap.size, 0, none⟩ = some (.int .i64 k) ∧ w'.cell? ⟨w.heap.size, 1, none⟩ = some (.int .i64 c) ∧ w'.cell? ⟨w.heap.size + 1, 0, none⟩ = some (.int .u64 p.n) ∧ w'.cell? ⟨w.heap.size + 1, 1, none⟩ = some (.int .i64 p.v) ∧ w'.cell? ⟨w.heap.size + 1, 2, none⟩ = some (.slice a1 n1 c1) ∧ w'.cell? ⟨w.heap.size + 1 + 1, 0, none⟩ = some (.int .i64 f.t) ∧ w'.cell? ⟨w.heap.size + 1 + 1, 1, none⟩ = some (.slice ad nd cd) ∧ w'.cell? ⟨w.heap.size + 1 + 1, 2, none⟩ = some (.slice am nm cm)) X := fun X b => by
    have k1 := hp0.upB b (by omega)
    have k2 := hq0.upB b (by omega)
    rw [e1] at k1
    rw [e2, e3] at k2
    exact ⟨b, by rw [b.cell (by show w.heap.size < _; omega)]; exact ha0.1, by rw [b.cell (by show w.heap.size < _; omega)]; exact ha0.2, k1.c0, k1.c1, k1.c2, k2.c0, k2.c1, k2.c2⟩
  have HBx : Hid (Box3 W (w.heap.size + 1 + 1 + 1) (.int .u64 0) (.int .i64 0) (.slice none 0 0)) := hbx
  have HGW : Hid (Below w.heap.size w W ∧ W.heap.size = w.heap.size + 4) := ⟨gW.below, hsz⟩
  by_cases hz : n = 0
  · have hJ : addP k c p.p0 f n = p.p0 := if_pos hz
    rw [hJ]
    have kS := copied_any W p okp hb1
    have hzb : (n == 0) = true := by simp [hz]
    obtain ⟨J, hJe⟩ : ∃ J : P0, J = p.p0 := ⟨_, rfl⟩
    rw [← hJe] at kS ⊢
    rw [e1, e2, e3] at hW ⊢
    rw [e1] at kS
    have HW : Hid _ := hW
    rw [hW] at kS
    unfold Gives at kS
    clear hW hp hf hb1 hfit gW hsz hbx hq0 hp0 ha0 okp okf e1 e2 e3 hJ hJe keepS hz
    go_enter Try.func23, Try.ntmps23
    go_wp2_with fail
    refine kS.mono ?_
    rintro e w3 ⟨r, rfl, ok3, new3, hr3, b3⟩
    rw [← HW.out] at new3 b3
    have bx := HBx.out.up b3
    obtain ⟨rn, rv, rtv, rts⟩ := r
    obtain ⟨a7, n7, c7, hv7⟩ := ok3.rt.sl
    simp only at hv7
    subst hv7
    have HI : Hid (Pt.Ok w3 ⟨rn, rv, .slice a7 n7 c7, rts⟩ ∧ New W.heap.size (.slice a7 n7 c7) ∧ (rn, rv, rts) = J ∧ Below W.heap.size W w3) := ⟨ok3, new3, hr3, b3⟩
    have HP6 : Hid _ := bx.put (.int .u64 rn) (.int .i64 rv) (.slice a7 n7 c7)
    obtain ⟨y0, y1, y2, yf⟩ := bx
    clear kS ok3 new3 hr3 b3
    go_wp2_with fail
    obtain ⟨Y, hY⟩ : ∃ Y, Y = put3 w3 (w.heap.size + 1 + 1 + 1) (.int .u64 rn) (.int .i64 rv) (.slice a7 n7 c7) := ⟨_, rfl⟩
    have hb := HP6.out
    rw [← hY] at hb
    rw [show ((w3.setCell ⟨w.heap.size + 1 + 1 + 1, 0, none⟩ (.int .u64 rn)).setCell ⟨w.heap.size + 1 + 1 + 1, 1, none⟩ (.int .i64 rv)).setCell ⟨w.heap.size + 1 + 1 + 1, 2, none⟩ (.slice a7 n7 c7) = Y from hY.symm]
    obtain ⟨z0, z1, z2, -⟩ := hb
    refine bodyPost_ret (by simp [results, Try.results23, go_sem, z0, z1, z2]; try rfl) rfl ?_
    obtain ⟨i0, i1, i2, i3⟩ := HI.out
    obtain ⟨g1, g2⟩ := HGW.out
    refine ⟨⟨rn, rv, .slice a7 n7 c7, rts⟩, rfl, ?_, i1.mono (by omega), i2, ?_⟩
    · rw [hY]
      exact i0.put3 i1 (by omega) _ _ _
    · rw [hY]
      exact below_put3 (g1.trans (i3.mono (by omega))) (by omega) _ _ _
  · have hJ : addP k c p.p0 f n = mrgP k p.p0 (hasP k c f n) := if_neg hz
    rw [hJ]
    have hzb : (n == 0) = false := by simp [hz]
    obtain ⟨g, x0, x2, x3, x4, hfn, kW, kJ0⟩ := way_has k c
    have kJ : ∀ X, Below W.heap.size W X → Calls Try.prog g #[.int .i64 c, .agg #[.int .i64 f.t, .slice ad nd cd, .slice am nm cm], .int .u64 n] X (Gives (hasP k c f n) X) := fun X b => by
      have := kJ0 X f n (okf.up b)
      rw [e2, e3] at this
      exact this
    obtain ⟨J, hJe⟩ : ∃ J : P0, J = mrgP k p.p0 (hasP k c f n) := ⟨_, rfl⟩
    have HKM : Aside (∀ (X : World) (r : Pt), Below W.heap.size W X → r.Ok X → r.p0 = hasP k c f n → Calls Try.prog 21 #[.agg #[.int .i64 k, .int .i64 c], .agg #[.int .u64 p.n, .int .i64 p.v, .slice a1 n1 c1], .agg #[.int .u64 r.n, .int .i64 r.v, r.tv]] X (Gives J X)) := fun X r b okr hr => by
      have hl := hasP_len k c f n
      rw [← hr] at hl
      have hl : r.ts.length ≤ 1 := hl
      have := merge_any X k c p r (okp.up b) okr hb1 (by omega) (fun h1 h2 h5 => by
        have h6 := hfit h1 h5
        have h7 : r.ts = [atS f.ds c] := by subst h5; have := hasP_5 c f n; rw [← hr] at this; exact this
        rw [h7]; simp; omega)
      rw [e1, hr, ← hJe] at this
      exact this
    rw [← hJe]
    unfold Gives at kJ HKM
    unfold WayC at kW
    simp only [fv] at kW
    generalize hasP k c f n = H at *
    have hfd : ∀ w : World, (Instr.field 61 (.agg #[.func (.func x0) #[] #[], .func (.func g) #[] #[], .func (.func x2) #[] #[], .func (.func x3) #[] #[], .func (.func x4) #[] #[]]) 1).run Try.prog w = .ok (.func (.func g) #[] #[]) w := fun _ => by kernel_rfl
    have mixed : Try.prog.follows .mixedOrders = true := by kernel_rfl
    rw [e1, e2, e3] at hW ⊢
    have HW : Hid _ := hW
    clear hW hp hf hb1 hfit gW hsz hbx hq0 hp0 ha0 okp okf e1 e2 e3 kJ0 hJ hJe hz
    go_enter Try.func23, Try.ntmps23
    rcases hfn with rfl | rfl | rfl | rfl
    · go_wp2_with fail
      rw [← HW.out]
      go_region_held (fun w' => Below (w.heap.size + 1 + 1 + 1) W w' ∧ w'.cell? ⟨w.heap.size, 0, none⟩ = some (.int .i64 k) ∧ w'.cell? ⟨w.heap.size, 1, none⟩ = some (.int .i64 c) ∧ w'.cell? ⟨w.heap.size + 1, 0, none⟩ = some (.int .u64 p.n) ∧ w'.cell? ⟨w.heap.size + 1, 1, none⟩ = some (.int .i64 p.v) ∧ w'.cell? ⟨w.heap.size + 1, 2, none⟩ = some (.slice a1 n1 c1) ∧ w'.cell? ⟨w.heap.size + 1 + 1, 0, none⟩ = some (.int .i64 f.t) ∧ w'.cell? ⟨w.heap.size + 1 + 1, 1, none⟩ = some (.slice ad nd cd) ∧ w'.cell? ⟨w.heap.size + 1 + 1, 2, none⟩ = some (.slice am nm cm))
        (exact keepS _ (by repeat' (first | with_reducible assumption | with_reducible exact Below.refl _ _ | with_reducible refine Below.drew ?_ | with_reducible refine bel_put ?_ _ _)))
        (first
          | (go_at_call 25; (with_reducible refine (kW _).mono ?_); rintro e3 w3 ⟨rfl, g3⟩; have B3W : Below W.heap.size W w3 := bel_trans (Below.drew (Below.refl _ _)) g3.below; have B3 : Below (w.heap.size + 1 + 1 + 1) W w3 := B3W.mono hBW)
          | (go_at_call 36; (with_reducible refine (kJ _ B3W).mono ?_); rintro e4 w4 ⟨r, rfl, ok4, new4, hr4, b4⟩; have B4W : Below W.heap.size W w4 := bel_trans B3W b4; have B4 : Below (w.heap.size + 1 + 1 + 1) W w4 := B4W.mono hBW; have kM := HKM.out w4 r B4W ok4 hr4; obtain ⟨a4, n4, c4, hv4⟩ := ok4.rt.sl; obtain ⟨rn4, rv4, rtv4, rts4⟩ := r; simp only at hv4; subst hv4; simp only at kM; clear ok4 new4 hr4)
          | (go_at_call 21; (with_reducible refine kM.mono ?_); rintro e5 w5 ⟨r5, rfl, ok5, new5, hr5, b5⟩; have B5W : Below W.heap.size W w5 := bel_trans B4W b5; have B5 : Below (w.heap.size + 1 + 1 + 1) W w5 := B5W.mono hBW; have bx5 := HBx.out.up B5W; obtain ⟨a7, n7, c7, hv7⟩ := ok5.rt.sl; obtain ⟨rn, rv, rtv, rts⟩ := r5; simp only at hv7; subst hv7; have HI : Hid (Pt.Ok w5 ⟨rn, rv, .slice a7 n7 c7, rts⟩ ∧ New W.heap.size (.slice a7 n7 c7) ∧ (rn, rv, rts) = J ∧ Below W.heap.size W w5) := ⟨ok5, New.mono new5 B4W.size, hr5, B5W⟩; have HP6 : Hid (Box3 (put3 w5 (w.heap.size + 1 + 1 + 1) (.int .u64 rn) (.int .i64 rv) (.slice a7 n7 c7)) (w.heap.size + 1 + 1 + 1) (.int .u64 rn) (.int .i64 rv) (.slice a7 n7 c7)) := bx5.put (.int .u64 rn) (.int .i64 rv) (.slice a7 n7 c7); obtain ⟨y0, y1, y2, yf⟩ := bx5; clear ok5 new5 hr5 b5))
      all_goals
        go_wp2_with fail
        obtain ⟨Y, hY⟩ : ∃ Y, Y = put3 w5 (w.heap.size + 1 + 1 + 1) (.int .u64 rn) (.int .i64 rv) (.slice a7 n7 c7) := ⟨_, rfl⟩
        have hb := HP6.out
        rw [← hY] at hb
        rw [show ((w5.setCell ⟨w.heap.size + 1 + 1 + 1, 0, none⟩ (.int .u64 rn)).setCell ⟨w.heap.size + 1 + 1 + 1, 1, none⟩ (.int .i64 rv)).setCell ⟨w.heap.size + 1 + 1 + 1, 2, none⟩ (.slice a7 n7 c7) = Y from hY.symm]
        obtain ⟨z0, z1, z2, -⟩ := hb
        refine bodyPost_ret (by simp [results, Try.results23, go_sem, z0, z1, z2]; try rfl) rfl ?_
        obtain ⟨i0, i1, i2, i3⟩ := HI.out
        obtain ⟨g1, g2⟩ := HGW.out
        refine ⟨⟨rn, rv, .slice a7 n7 c7, rts⟩, rfl, ?_, i1.mono (by omega), i2, ?_⟩
        · rw [hY]
          exact i0.put3 i1 (by omega) _ _ _
        · rw [hY]
          exact below_put3 (g1.trans (i3.mono (by omega))) (by omega) _ _ _
    · go_wp2_with fail
      rw [← HW.out]
      go_region_held (fun w' => Below (w.heap.size + 1 + 1 + 1) W w' ∧ w'.cell? ⟨w.heap.size, 0, none⟩ = some (.int .i64 k) ∧ w'.cell? ⟨w.heap.size, 1, none⟩ = some (.int .i64 c) ∧ w'.cell? ⟨w.heap.size + 1, 0, none⟩ = some (.int .u64 p.n) ∧ w'.cell? ⟨w.heap.size + 1, 1, none⟩ = some (.int .i64 p.v) ∧ w'.cell? ⟨w.heap.size + 1, 2, none⟩ = some (.slice a1 n1 c1) ∧ w'.cell? ⟨w.heap.size + 1 + 1, 0, none⟩ = some (.int .i64 f.t) ∧ w'.cell? ⟨w.heap.size + 1 + 1, 1, none⟩ = some (.slice ad nd cd) ∧ w'.cell? ⟨w.heap.size + 1 + 1, 2, none⟩ = some (.slice am nm cm))
        (exact keepS _ (by repeat' (first | with_reducible assumption | with_reducible exact Below.refl _ _ | with_reducible refine Below.drew ?_ | with_reducible refine bel_put ?_ _ _)))
        (first
          | (go_at_call 25; (with_reducible refine (kW _).mono ?_); rintro e3 w3 ⟨rfl, g3⟩; have B3W : Below W.heap.size W w3 := bel_trans (Below.drew (Below.refl _ _)) g3.below; have B3 : Below (w.heap.size + 1 + 1 + 1) W w3 := B3W.mono hBW)
          | (go_at_call 43; (with_reducible refine (kJ _ B3W).mono ?_); rintro e4 w4 ⟨r, rfl, ok4, new4, hr4, b4⟩; have B4W : Below W.heap.size W w4 := bel_trans B3W b4; have B4 : Below (w.heap.size + 1 + 1 + 1) W w4 := B4W.mono hBW; have kM := HKM.out w4 r B4W ok4 hr4; obtain ⟨a4, n4, c4, hv4⟩ := ok4.rt.sl; obtain ⟨rn4, rv4, rtv4, rts4⟩ := r; simp only at hv4; subst hv4; simp only at kM; clear ok4 new4 hr4)
          | (go_at_call 21; (with_reducible refine kM.mono ?_); rintro e5 w5 ⟨r5, rfl, ok5, new5, hr5, b5⟩; have B5W : Below W.heap.size W w5 := bel_trans B4W b5; have B5 : Below (w.heap.size + 1 + 1 + 1) W w5 := B5W.mono hBW; have bx5 := HBx.out.up B5W; obtain ⟨a7, n7, c7, hv7⟩ := ok5.rt.sl; obtain ⟨rn, rv, rtv, rts⟩ := r5; simp only at hv7; subst hv7; have HI : Hid (Pt.Ok w5 ⟨rn, rv, .slice a7 n7 c7, rts⟩ ∧ New W.heap.size (.slice a7 n7 c7) ∧ (rn, rv, rts) = J ∧ Below W.heap.size W w5) := ⟨ok5, New.mono new5 B4W.size, hr5, B5W⟩; have HP6 : Hid (Box3 (put3 w5 (w.heap.size + 1 + 1 + 1) (.int .u64 rn) (.int .i64 rv) (.slice a7 n7 c7)) (w.heap.size + 1 + 1 + 1) (.int .u64 rn) (.int .i64 rv) (.slice a7 n7 c7)) := bx5.put (.int .u64 rn) (.int .i64 rv) (.slice a7 n7 c7); obtain ⟨y0, y1, y2, yf⟩ := bx5; clear ok5 new5 hr5 b5))
      all_goals
        go_wp2_with fail
        obtain ⟨Y, hY⟩ : ∃ Y, Y = put3 w5 (w.heap.size + 1 + 1 + 1) (.int .u64 rn) (.int .i64 rv) (.slice a7 n7 c7) := ⟨_, rfl⟩
        have hb := HP6.out
        rw [← hY] at hb
        rw [show ((w5.setCell ⟨w.heap.size + 1 + 1 + 1, 0, none⟩ (.int .u64 rn)).setCell ⟨w.heap.size + 1 + 1 + 1, 1, none⟩ (.int .i64 rv)).setCell ⟨w.heap.size + 1 + 1 + 1, 2, none⟩ (.slice a7 n7 c7) = Y from hY.symm]
        obtain ⟨z0, z1, z2, -⟩ := hb
        refine bodyPost_ret (by simp [results, Try.results23, go_sem, z0, z1, z2]; try rfl) rfl ?_
        obtain ⟨i0, i1, i2, i3⟩ := HI.out
        obtain ⟨g1, g2⟩ := HGW.out
        refine ⟨⟨rn, rv, .slice a7 n7 c7, rts⟩, rfl, ?_, i1.mono (by omega), i2, ?_⟩
        · rw [hY]
          exact i0.put3 i1 (by omega) _ _ _
        · rw [hY]
          exact below_put3 (g1.trans (i3.mono (by omega))) (by omega) _ _ _
    · go_wp2_with fail
      rw [← HW.out]
      go_region_held (fun w' => Below (w.heap.size + 1 + 1 + 1) W w' ∧ w'.cell? ⟨w.heap.size, 0, none⟩ = some (.int .i64 k) ∧ w'.cell? ⟨w.heap.size, 1, none⟩ = some (.int .i64 c) ∧ w'.cell? ⟨w.heap.size + 1, 0, none⟩ = some (.int .u64 p.n) ∧ w'.cell? ⟨w.heap.size + 1, 1, none⟩ = some (.int .i64 p.v) ∧ w'.cell? ⟨w.heap.size + 1, 2, none⟩ = some (.slice a1 n1 c1) ∧ w'.cell? ⟨w.heap.size + 1 + 1, 0, none⟩ = some (.int .i64 f.t) ∧ w'.cell? ⟨w.heap.size + 1 + 1, 1, none⟩ = some (.slice ad nd cd) ∧ w'.cell? ⟨w.heap.size + 1 + 1, 2, none⟩ = some (.slice am nm cm))
        (exact keepS _ (by repeat' (first | with_reducible assumption | with_reducible exact Below.refl _ _ | with_reducible refine Below.drew ?_ | with_reducible refine bel_put ?_ _ _)))
        (first
          | (go_at_call 25; (with_reducible refine (kW _).mono ?_); rintro e3 w3 ⟨rfl, g3⟩; have B3W : Below W.heap.size W w3 := bel_trans (Below.drew (Below.refl _ _)) g3.below; have B3 : Below (w.heap.size + 1 + 1 + 1) W w3 := B3W.mono hBW)
          | (go_at_call 46; (with_reducible refine (kJ _ B3W).mono ?_); rintro e4 w4 ⟨r, rfl, ok4, new4, hr4, b4⟩; have B4W : Below W.heap.size W w4 := bel_trans B3W b4; have B4 : Below (w.heap.size + 1 + 1 + 1) W w4 := B4W.mono hBW; have kM := HKM.out w4 r B4W ok4 hr4; obtain ⟨a4, n4, c4, hv4⟩ := ok4.rt.sl; obtain ⟨rn4, rv4, rtv4, rts4⟩ := r; simp only at hv4; subst hv4; simp only at kM; clear ok4 new4 hr4)
          | (go_at_call 21; (with_reducible refine kM.mono ?_); rintro e5 w5 ⟨r5, rfl, ok5, new5, hr5, b5⟩; have B5W : Below W.heap.size W w5 := bel_trans B4W b5; have B5 : Below (w.heap.size + 1 + 1 + 1) W w5 := B5W.mono hBW; have bx5 := HBx.out.up B5W; obtain ⟨a7, n7, c7, hv7⟩ := ok5.rt.sl; obtain ⟨rn, rv, rtv, rts⟩ := r5; simp only at hv7; subst hv7; have HI : Hid (Pt.Ok w5 ⟨rn, rv, .slice a7 n7 c7, rts⟩ ∧ New W.heap.size (.slice a7 n7 c7) ∧ (rn, rv, rts) = J ∧ Below W.heap.size W w5) := ⟨ok5, New.mono new5 B4W.size, hr5, B5W⟩; have HP6 : Hid (Box3 (put3 w5 (w.heap.size + 1 + 1 + 1) (.int .u64 rn) (.int .i64 rv) (.slice a7 n7 c7)) (w.heap.size + 1 + 1 + 1) (.int .u64 rn) (.int .i64 rv) (.slice a7 n7 c7)) := bx5.put (.int .u64 rn) (.int .i64 rv) (.slice a7 n7 c7); obtain ⟨y0, y1, y2, yf⟩ := bx5; clear ok5 new5 hr5 b5))
      all_goals
        go_wp2_with fail
        obtain ⟨Y, hY⟩ : ∃ Y, Y = put3 w5 (w.heap.size + 1 + 1 + 1) (.int .u64 rn) (.int .i64 rv) (.slice a7 n7 c7) := ⟨_, rfl⟩
        have hb := HP6.out
        rw [← hY] at hb
        rw [show ((w5.setCell ⟨w.heap.size + 1 + 1 + 1, 0, none⟩ (.int .u64 rn)).setCell ⟨w.heap.size + 1 + 1 + 1, 1, none⟩ (.int .i64 rv)).setCell ⟨w.heap.size + 1 + 1 + 1, 2, none⟩ (.slice a7 n7 c7) = Y from hY.symm]
        obtain ⟨z0, z1, z2, -⟩ := hb
        refine bodyPost_ret (by simp [results, Try.results23, go_sem, z0, z1, z2]; try rfl) rfl ?_
        obtain ⟨i0, i1, i2, i3⟩ := HI.out
        obtain ⟨g1, g2⟩ := HGW.out
        refine ⟨⟨rn, rv, .slice a7 n7 c7, rts⟩, rfl, ?_, i1.mono (by omega), i2, ?_⟩
        · rw [hY]
          exact i0.put3 i1 (by omega) _ _ _
        · rw [hY]
          exact below_put3 (g1.trans (i3.mono (by omega))) (by omega) _ _ _
    · go_wp2_with fail
      rw [← HW.out]
      go_region_held (fun w' => Below (w.heap.size + 1 + 1 + 1) W w' ∧ w'.cell? ⟨w.heap.size, 0, none⟩ = some (.int .i64 k) ∧ w'.cell? ⟨w.heap.size, 1, none⟩ = some (.int .i64 c) ∧ w'.cell? ⟨w.heap.size + 1, 0, none⟩ = some (.int .u64 p.n) ∧ w'.cell? ⟨w.heap.size + 1, 1, none⟩ = some (.int .i64 p.v) ∧ w'.cell? ⟨w.heap.size + 1, 2, none⟩ = some (.slice a1 n1 c1) ∧ w'.cell? ⟨w.heap.size + 1 + 1, 0, none⟩ = some (.int .i64 f.t) ∧ w'.cell? ⟨w.heap.size + 1 + 1, 1, none⟩ = some (.slice ad nd cd) ∧ w'.cell? ⟨w.heap.size + 1 + 1, 2, none⟩ = some (.slice am nm cm))
        (exact keepS _ (by repeat' (first | with_reducible assumption | with_reducible exact Below.refl _ _ | with_reducible refine Below.drew ?_ | with_reducible refine bel_put ?_ _ _)))
        (first
          | (go_at_call 25; (with_reducible refine (kW _).mono ?_); rintro e3 w3 ⟨rfl, g3⟩; have B3W : Below W.heap.size W w3 := bel_trans (Below.drew (Below.refl _ _)) g3.below; have B3 : Below (w.heap.size + 1 + 1 + 1) W w3 := B3W.mono hBW)
          | (go_at_call 50; (with_reducible refine (kJ _ B3W).mono ?_); rintro e4 w4 ⟨r, rfl, ok4, new4, hr4, b4⟩; have B4W : Below W.heap.size W w4 := bel_trans B3W b4; have B4 : Below (w.heap.size + 1 + 1 + 1) W w4 := B4W.mono hBW; have kM := HKM.out w4 r B4W ok4 hr4; obtain ⟨a4, n4, c4, hv4⟩ := ok4.rt.sl; obtain ⟨rn4, rv4, rtv4, rts4⟩ := r; simp only at hv4; subst hv4; simp only at kM; clear ok4 new4 hr4)
          | (go_at_call 21; (with_reducible refine kM.mono ?_); rintro e5 w5 ⟨r5, rfl, ok5, new5, hr5, b5⟩; have B5W : Below W.heap.size W w5 := bel_trans B4W b5; have B5 : Below (w.heap.size + 1 + 1 + 1) W w5 := B5W.mono hBW; have bx5 := HBx.out.up B5W; obtain ⟨a7, n7, c7, hv7⟩ := ok5.rt.sl; obtain ⟨rn, rv, rtv, rts⟩ := r5; simp only at hv7; subst hv7; have HI : Hid (Pt.Ok w5 ⟨rn, rv, .slice a7 n7 c7, rts⟩ ∧ New W.heap.size (.slice a7 n7 c7) ∧ (rn, rv, rts) = J ∧ Below W.heap.size W w5) := ⟨ok5, New.mono new5 B4W.size, hr5, B5W⟩; have HP6 : Hid (Box3 (put3 w5 (w.heap.size + 1 + 1 + 1) (.int .u64 rn) (.int .i64 rv) (.slice a7 n7 c7)) (w.heap.size + 1 + 1 + 1) (.int .u64 rn) (.int .i64 rv) (.slice a7 n7 c7)) := bx5.put (.int .u64 rn) (.int .i64 rv) (.slice a7 n7 c7); obtain ⟨y0, y1, y2, yf⟩ := bx5; clear ok5 new5 hr5 b5))
      all_goals
        go_wp2_with fail
        obtain ⟨Y, hY⟩ : ∃ Y, Y = put3 w5 (w.heap.size + 1 + 1 + 1) (.int .u64 rn) (.int .i64 rv) (.slice a7 n7 c7) := ⟨_, rfl⟩
        have hb := HP6.out
        rw [← hY] at hb
        rw [show ((w5.setCell ⟨w.heap.size + 1 + 1 + 1, 0, none⟩ (.int .u64 rn)).setCell ⟨w.heap.size + 1 + 1 + 1, 1, none⟩ (.int .i64 rv)).setCell ⟨w.heap.size + 1 + 1 + 1, 2, none⟩ (.slice a7 n7 c7) = Y from hY.symm]
        obtain ⟨z0, z1, z2, -⟩ := hb
        refine bodyPost_ret (by simp [results, Try.results23, go_sem, z0, z1, z2]; try rfl) rfl ?_
        obtain ⟨i0, i1, i2, i3⟩ := HI.out
        obtain ⟨g1, g2⟩ := HGW.out
        refine ⟨⟨rn, rv, .slice a7 n7 c7, rts⟩, rfl, ?_, i1.mono (by omega), i2, ?_⟩
        · rw [hY]
          exact i0.put3 i1 (by omega) _ _ _
        · rw [hY]
          exact below_put3 (g1.trans (i3.mono (by omega))) (by omega) _ _ _
end Go.Proofs.Ytkoihniggoelnaa
