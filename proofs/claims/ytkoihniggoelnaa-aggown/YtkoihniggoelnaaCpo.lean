/- What copied, Merge with nothing and Add of no fact answer is the caller's own. -/
import Derived.Test.YtkoihniggoelnaaRgt0
namespace Go.Proofs.Ytkoihniggoelnaa
open Go.RowKit Go.Sort

/-- It is answered so, and is the caller's own. -/
def GivesO (x : P0) (w : World) (e : Ending) (w' : World) : Prop := ∃ p : Pt, e = .returned (.agg #[.int .u64 p.n, .int .i64 p.v, p.tv]) ∧ w'.ownsRow w.heap.size 9 1 p.tv p.ts.length (sv p.ts) ∧ p.p0 = x ∧ Below w.heap.size w w'
set_option maxHeartbeats 1600000 in
theorem copied_own (w : World) (p : Pt) (hp : p.Ok w) (hb : p.ts.length * 16 ≤ 160842843834660) : Calls Try.prog 29 #[.agg #[.int .u64 p.n, .int .i64 p.v, p.tv]] w (GivesO p.p0 w) := by
  obtain ⟨W, hW⟩ : ∃ W, W = (w.alloc (.cells #[.int .u64 p.n, .int .i64 p.v, p.tv] 30)).alloc (.cells #[.int .u64 0, .int .i64 0, .slice none 0 0] 30) := ⟨_, rfl⟩
  have gW : Grows w W := by rw [hW]; exact (Grows.alloc _ _).trans (Grows.alloc _ _)
  have hsz : W.heap.size = w.heap.size + 1 + 1 := by rw [hW]; simp
  have hBW : w.heap.size + 1 ≤ W.heap.size := by omega
  have hbx : Box3 W (w.heap.size + 1) (.int .u64 0) (.int .i64 0) (.slice none 0 0) := by rw [hW]; exact Box3.new _ _ _ _ _ _ (by simp)
  have hbp : Box3 W w.heap.size (.int .u64 p.n) (.int .i64 p.v) p.tv := by
    rw [hW]; exact (Box3.new w _ _ _ _ _ rfl).up ((Below.refl _ _).alloc (Nat.le_refl _) _)
  obtain ⟨a1, n1, c1, e1⟩ := hp.rt.sl
  have kC : ∀ X, Below (w.heap.size + 1) W X → Calls Try.prog 33 #[.slice a1 n1 c1] X fun e w' => ∃ v', e = .returned v' ∧ w'.ownsRow X.heap.size 9 1 v' p.ts.length (sv p.ts) ∧ Below X.heap.size X w' := fun X bX => by
    have h1 := (hp.up (gW.below.trans (bX.mono (by omega)))).rt.k
    rw [e1, sv_length] at h1
    exact clone_str X _ _ _ h1 (sv_one _) hb
  rw [e1] at hbp hW ⊢
  have keepS : ∀ X, Below (w.heap.size + 1) W X → (fun w' => Below (w.heap.size + 1) W w' ∧ w'.cell? ⟨w.heap.size, 0, none⟩ = some (.int .u64 p.n) ∧ w'.cell? ⟨w.heap.size, 1, none⟩ = some (.int .i64 p.v) ∧ w'.cell? ⟨w.heap.size, 2, none⟩ = some (.slice a1 n1 c1)) X := fun X bX => ⟨bX, (hbp.upB bX (Nat.lt_succ_self _)).c0, (hbp.upB bX (Nat.lt_succ_self _)).c1, (hbp.upB bX (Nat.lt_succ_self _)).c2⟩
  have HBx : Hid (Box3 W (w.heap.size + 1) (.int .u64 0) (.int .i64 0) (.slice none 0 0)) := hbx
  have HW : Hid _ := hW
  have HGW : Hid (Below w.heap.size w W ∧ W.heap.size = w.heap.size + 1 + 1) := ⟨gW.below, hsz⟩
  clear hp hb e1 gW hsz hbx hbp hW
  go_enter Try.func29, Try.ntmps29
  go_wp2_with fail
  rw [← HW.out]
  go_region_held (fun w' => Below (w.heap.size + 1) W w' ∧ w'.cell? ⟨w.heap.size, 0, none⟩ = some (.int .u64 p.n) ∧ w'.cell? ⟨w.heap.size, 1, none⟩ = some (.int .i64 p.v) ∧ w'.cell? ⟨w.heap.size, 2, none⟩ = some (.slice a1 n1 c1))
    (exact keepS _ (by repeat' (first | with_reducible assumption | with_reducible exact Below.refl _ _ | with_reducible refine Below.drew ?_ | with_reducible refine bel2_alloc hBW ?_ _ | with_reducible refine bel_put ?_ _ _)))
    (first
      | (go_at_call 33; (with_reducible refine (kC W.drew (by repeat' (first | with_reducible assumption | with_reducible exact Below.refl _ _ | with_reducible refine Below.drew ?_ | with_reducible refine bel2_alloc hBW ?_ _ | with_reducible refine bel_put ?_ _ _))).mono ?_); rintro e3 w3 ⟨v3, rfl, o3, b3⟩; have b3W : Below W.heap.size W w3 := bel_trans (Below.drew (Below.refl _ _)) b3; have B3 : Below (w.heap.size + 1) W w3 := b3W.mono hBW; have HO3 : Hid (w3.ownsRow W.heap.size 9 1 v3 p.ts.length (sv p.ts)) := o3; have hb3 := HBx.out.up b3W; obtain ⟨y0, y1, y2, yf⟩ := hb3; have HB3 : Hid (Box3 w3 (w.heap.size + 1) (.int .u64 0) (.int .i64 0) (.slice none 0 0)) := ⟨y0, y1, y2, yf⟩; have HBW3 : Hid (Below W.heap.size W w3) := b3W; obtain ⟨a3, n3, c3, hv3⟩ := own_sl o3; subst hv3; clear o3 b3 b3W))
  all_goals
    go_wp2_with fail
    obtain ⟨Y, hY⟩ : ∃ Y, Y = put3 w3 (w.heap.size + 1) (.int .u64 p.n) (.int .i64 p.v) (.slice a3 n3 c3) := ⟨_, rfl⟩
    have hb := HB3.out.put (.int .u64 p.n) (.int .i64 p.v) (.slice a3 n3 c3)
    rw [← hY] at hb
    rw [show ((w3.setCell ⟨w.heap.size + 1, 0, none⟩ (.int .u64 p.n)).setCell ⟨w.heap.size + 1, 1, none⟩ (.int .i64 p.v)).setCell ⟨w.heap.size + 1, 2, none⟩ (.slice a3 n3 c3) = Y from hY.symm]
    obtain ⟨z0, z1, z2, -⟩ := hb
    have HY : Hid _ := hY
    clear hY y0 y1 y2 yf
    refine bodyPost_ret (by simp [results, Try.results29, go_sem, z0, z1, z2]; try rfl) rfl ?_
    obtain ⟨g1, g2⟩ := HGW.out
    refine ⟨⟨p.n, p.v, .slice a3 n3 c3, p.ts⟩, rfl, ?_, rfl, ?_⟩
    · rw [HY.out]
      exact own_mono (own_put3 HO3.out (by omega) _ _ _) (by omega)
    · rw [HY.out]
      exact below_put3 (g1.trans (HBW3.out.mono (by omega))) (by omega) _ _ _
set_option maxHeartbeats 8000000 in
theorem merge_own (w : World) (k c : Int) (p q : Pt) (hp : p.Ok w) (hq : q.Ok w) (hb1 : p.ts.length * 16 ≤ 160842843834660) (hqz : q.n = 0) :
    Calls Try.prog 21 #[.agg #[.int .i64 k, .int .i64 c], .agg #[.int .u64 p.n, .int .i64 p.v, p.tv], .agg #[.int .u64 q.n, .int .i64 q.v, q.tv]] w (GivesO (mrgP k p.p0 q.p0) w) := by
  obtain ⟨W, hW⟩ : ∃ W, W = (((w.alloc (.cells #[.int .i64 k, .int .i64 c] 26)).alloc (.cells #[.int .u64 p.n, .int .i64 p.v, p.tv] 30)).alloc (.cells #[.int .u64 q.n, .int .i64 q.v, q.tv] 30)).alloc (.cells #[.int .u64 0, .int .i64 0, .slice none 0 0] 30) := ⟨_, rfl⟩
  have gW : Grows w W := by rw [hW]; exact (((Grows.alloc _ _).trans (Grows.alloc _ _)).trans (Grows.alloc _ _)).trans (Grows.alloc _ _)
  have hsz : W.heap.size = w.heap.size + 4 := by rw [hW]; simp
  have hbx : Box3 W (w.heap.size + 1 + 1 + 1) (.int .u64 0) (.int .i64 0) (.slice none 0 0) := by rw [hW]; exact Box3.new _ _ _ _ _ _ (by simp)
  have hq0 : Box3 W (w.heap.size + 1 + 1) (.int .u64 q.n) (.int .i64 q.v) q.tv := by
    rw [hW]; exact (Box3.new _ _ _ _ _ _ (by simp)).up ((Below.refl _ _).alloc (Nat.le_refl _) _)
  have hp0 : Box3 W (w.heap.size + 1) (.int .u64 p.n) (.int .i64 p.v) p.tv := by
    rw [hW]; exact (Box3.new _ _ _ _ _ _ (by simp)).up ((Grows.alloc _ _).trans (Grows.alloc _ _)).below
  have ha0 : W.cell? ⟨w.heap.size, 0, none⟩ = some (.int .i64 k) ∧ W.cell? ⟨w.heap.size, 1, none⟩ = some (.int .i64 c) := by
    rw [hW]
    exact ⟨cell_up (((Grows.alloc _ _).trans (Grows.alloc _ _)).trans (Grows.alloc _ _)).below (al_new _ _ _ rfl rfl), cell_up (((Grows.alloc _ _).trans (Grows.alloc _ _)).trans (Grows.alloc _ _)).below (al_new _ _ _ rfl rfl)⟩
  have okp := hp.up gW.below
  have okq := hq.up gW.below
  obtain ⟨a1, n1, c1, e1⟩ := hp.rt.sl
  obtain ⟨a2, n2, c2, e2⟩ := hq.rt.sl
  have keepS : ∀ X, Below W.heap.size W X → (fun w' => Below W.heap.size W w' ∧ w'.cell? ⟨w.heap.size, 0, none⟩ = some (.int .i64 k) ∧ w'.cell? ⟨w.heap.size, 1, none⟩ = some (.int .i64 c) ∧ w'.cell? ⟨w.heap.size + 1, 0, none⟩ = some (.int .u64 p.n) ∧ w'.cell? ⟨w.heap.size + 1, 1, none⟩ = some (.int .i64 p.v) ∧ w'.cell? ⟨w.heap.size + 1, 2, none⟩ = some (.slice a1 n1 c1) ∧ w'.cell? ⟨w.heap.size + 1 + 1, 0, none⟩ = some (.int .u64 q.n) ∧ w'.cell? ⟨w.heap.size + 1 + 1, 1, none⟩ = some (.int .i64 q.v) ∧ w'.cell? ⟨w.heap.size + 1 + 1, 2, none⟩ = some (.slice a2 n2 c2)) X := fun X b => by
    have k1 := hp0.up b
    have k2 := hq0.up b
    rw [e1] at k1
    rw [e2] at k2
    exact ⟨b, cell_up b ha0.1, cell_up b ha0.2, k1.c0, k1.c1, k1.c2, k2.c0, k2.c1, k2.c2⟩
  have HBx : Hid (Box3 W (w.heap.size + 1 + 1 + 1) (.int .u64 0) (.int .i64 0) (.slice none 0 0)) := hbx
  have HGW : Hid (Below w.heap.size w W ∧ W.heap.size = w.heap.size + 4) := ⟨gW.below, hsz⟩
  have HOk : Hid (p.Ok W ∧ q.Ok W) := ⟨okp, okq⟩
  have HE : Hid (p.tv = .slice a1 n1 c1 ∧ q.tv = .slice a2 n2 c2) := ⟨e1, e2⟩
  by_cases hpz : p.n = 0
  · have hpb : (p.n == 0) = true := by simp [hpz]
    have hqb : (q.n == 0) = true := by simp [hqz]
    have hJ : mrgP k p.p0 q.p0 = (0, 0, []) := if_pos ⟨hpz, hqz⟩
    rw [hJ]
    have kS : Calls Try.prog 22 #[.agg #[.int .i64 k, .int .i64 c]] W (GivesO (0, 0, []) W) := (start_any W k c).mono fun _ _ ⟨h1, h2⟩ => ⟨⟨0, 0, .slice none 0 0, []⟩, h1, World.ownsRow_nil _ _ _ _, rfl, h2.below⟩
    obtain ⟨J, hJe⟩ : ∃ J : P0, J = (0, 0, []) := ⟨_, rfl⟩
    rw [← hJe] at kS ⊢
    rw [e1, e2] at hW ⊢
    have HW : Hid _ := hW
    rw [hW] at kS
    unfold GivesO at kS
    clear hW hp hq hb1 gW hsz hbx hq0 hp0 ha0 okp okq e1 e2 hJ hJe hpz hqz keepS HE HOk
    go_enter Try.func21, Try.ntmps21
    go_wp2_with fail
    refine kS.mono ?_
    rintro e w3 ⟨r, rfl, own3, hr3, b3⟩
    rw [← HW.out] at own3 b3
    have bx := HBx.out.up b3
    obtain ⟨rn, rv, rtv, rts⟩ := r
    obtain ⟨a7, n7, c7, hv7⟩ := own_sl own3
    simp only at hv7
    subst hv7
    have HI : Hid (w3.ownsRow W.heap.size 9 1 (.slice a7 n7 c7) rts.length (sv rts) ∧ (rn, rv, rts) = J ∧ Below W.heap.size W w3) := ⟨own3, hr3, b3⟩
    have HP6 : Hid _ := bx.put (.int .u64 rn) (.int .i64 rv) (.slice a7 n7 c7)
    obtain ⟨y0, y1, y2, yf⟩ := bx
    clear kS own3 hr3 b3
    go_wp2_with fail
    obtain ⟨Y, hY⟩ : ∃ Y, Y = put3 w3 (w.heap.size + 1 + 1 + 1) (.int .u64 rn) (.int .i64 rv) (.slice a7 n7 c7) := ⟨_, rfl⟩
    have hb := HP6.out
    rw [← hY] at hb
    rw [show ((w3.setCell ⟨w.heap.size + 1 + 1 + 1, 0, none⟩ (.int .u64 rn)).setCell ⟨w.heap.size + 1 + 1 + 1, 1, none⟩ (.int .i64 rv)).setCell ⟨w.heap.size + 1 + 1 + 1, 2, none⟩ (.slice a7 n7 c7) = Y from hY.symm]
    obtain ⟨z0, z1, z2, -⟩ := hb
    refine bodyPost_ret (by simp [results, Try.results21, go_sem, z0, z1, z2]; try rfl) rfl ?_
    obtain ⟨i0, i2, i3⟩ := HI.out
    obtain ⟨g1, g2⟩ := HGW.out
    refine ⟨⟨rn, rv, .slice a7 n7 c7, rts⟩, rfl, ?_, i2, ?_⟩
    · rw [hY]
      exact own_mono (own_put3 i0 (by omega) _ _ _) (by omega)
    · rw [hY]
      exact below_put3 (g1.trans (i3.mono (by omega))) (by omega) _ _ _
  · have hpb : (p.n == 0) = false := by simp [hpz]
    have hqb : (q.n == 0) = true := by simp [hqz]
    have hJ : mrgP k p.p0 q.p0 = p.p0 := by
      show (if p.n = 0 ∧ q.n = 0 then ((0 : Int), (0 : Int), ([] : List Str)) else if p.n = 0 then q.p0 else if q.n = 0 then p.p0 else _) = _
      rw [if_neg (fun h => hpz h.1), if_neg hpz, if_pos hqz]
    rw [hJ]
    have kS := copied_own W p okp hb1
    obtain ⟨J, hJe⟩ : ∃ J : P0, J = p.p0 := ⟨_, rfl⟩
    rw [← hJe] at kS ⊢
    rw [e1, e2] at hW ⊢
    rw [e1] at kS
    have HW : Hid _ := hW
    rw [hW] at kS
    unfold GivesO at kS
    clear hW hp hq hb1 gW hsz hbx hq0 hp0 ha0 okp okq e1 e2 hJ hJe hpz hqz keepS HE HOk
    go_enter Try.func21, Try.ntmps21
    go_wp2_with fail
    refine kS.mono ?_
    rintro e w3 ⟨r, rfl, own3, hr3, b3⟩
    rw [← HW.out] at own3 b3
    have bx := HBx.out.up b3
    obtain ⟨rn, rv, rtv, rts⟩ := r
    obtain ⟨a7, n7, c7, hv7⟩ := own_sl own3
    simp only at hv7
    subst hv7
    have HI : Hid (w3.ownsRow W.heap.size 9 1 (.slice a7 n7 c7) rts.length (sv rts) ∧ (rn, rv, rts) = J ∧ Below W.heap.size W w3) := ⟨own3, hr3, b3⟩
    have HP6 : Hid _ := bx.put (.int .u64 rn) (.int .i64 rv) (.slice a7 n7 c7)
    obtain ⟨y0, y1, y2, yf⟩ := bx
    clear kS own3 hr3 b3
    go_wp2_with fail
    obtain ⟨Y, hY⟩ : ∃ Y, Y = put3 w3 (w.heap.size + 1 + 1 + 1) (.int .u64 rn) (.int .i64 rv) (.slice a7 n7 c7) := ⟨_, rfl⟩
    have hb := HP6.out
    rw [← hY] at hb
    rw [show ((w3.setCell ⟨w.heap.size + 1 + 1 + 1, 0, none⟩ (.int .u64 rn)).setCell ⟨w.heap.size + 1 + 1 + 1, 1, none⟩ (.int .i64 rv)).setCell ⟨w.heap.size + 1 + 1 + 1, 2, none⟩ (.slice a7 n7 c7) = Y from hY.symm]
    obtain ⟨z0, z1, z2, -⟩ := hb
    refine bodyPost_ret (by simp [results, Try.results21, go_sem, z0, z1, z2]; try rfl) rfl ?_
    obtain ⟨i0, i2, i3⟩ := HI.out
    obtain ⟨g1, g2⟩ := HGW.out
    refine ⟨⟨rn, rv, .slice a7 n7 c7, rts⟩, rfl, ?_, i2, ?_⟩
    · rw [hY]
      exact own_mono (own_put3 i0 (by omega) _ _ _) (by omega)
    · rw [hY]
      exact below_put3 (g1.trans (i3.mono (by omega))) (by omega) _ _ _
set_option maxHeartbeats 8000000 in
theorem add_own (w : World) (k c n : Int) (p : Pt) (f : Fc) (hp : p.Ok w) (hf : f.Ok w) (hb1 : p.ts.length * 16 ≤ 160842843834660) (hz : n = 0) :
    Calls Try.prog 23 #[.agg #[.int .i64 k, .int .i64 c], .agg #[.int .u64 p.n, .int .i64 p.v, p.tv], .agg #[.int .i64 f.t, f.dv, f.mv], .int .u64 n] w (GivesO p.p0 w) := by
  obtain ⟨W, hW⟩ : ∃ W, W = (((w.alloc (.cells #[.int .i64 k, .int .i64 c] 26)).alloc (.cells #[.int .u64 p.n, .int .i64 p.v, p.tv] 30)).alloc (.cells #[.int .i64 f.t, f.dv, f.mv] 47)).alloc (.cells #[.int .u64 0, .int .i64 0, .slice none 0 0] 30) := ⟨_, rfl⟩
  have gW : Grows w W := by rw [hW]; exact (((Grows.alloc _ _).trans (Grows.alloc _ _)).trans (Grows.alloc _ _)).trans (Grows.alloc _ _)
  have hsz : W.heap.size = w.heap.size + 4 := by rw [hW]; simp
  have hBW : w.heap.size + 1 + 1 + 1 ≤ W.heap.size := by omega
  have hbx : Box3 W (w.heap.size + 1 + 1 + 1) (.int .u64 0) (.int .i64 0) (.slice none 0 0) := by rw [hW]; exact Box3.new _ _ _ _ _ _ (by simp)
  have hq0 : Box3 W (w.heap.size + 1 + 1) (.int .i64 f.t) f.dv f.mv := by
    rw [hW]; exact (Box3.new _ _ _ _ _ _ (by simp)).up ((Below.refl _ _).alloc (Nat.le_refl _) _)
  have hp0 : Box3 W (w.heap.size + 1) (.int .u64 p.n) (.int .i64 p.v) p.tv := by
    rw [hW]; exact (Box3.new _ _ _ _ _ _ (by simp)).up ((Grows.alloc _ _).trans (Grows.alloc _ _)).below
  have ha0 : W.cell? ⟨w.heap.size, 0, none⟩ = some (.int .i64 k) ∧ W.cell? ⟨w.heap.size, 1, none⟩ = some (.int .i64 c) := by
    rw [hW]
    exact ⟨cell_up (((Grows.alloc _ _).trans (Grows.alloc _ _)).trans (Grows.alloc _ _)).below (al_new _ _ _ rfl rfl), cell_up (((Grows.alloc _ _).trans (Grows.alloc _ _)).trans (Grows.alloc _ _)).below (al_new _ _ _ rfl rfl)⟩
  have okp := hp.up gW.below
  have okf := hf.up gW.below
  obtain ⟨a1, n1, c1, e1⟩ := hp.rt.sl
  obtain ⟨ad, nd, cd, am, nm, cm, e2, e3, -⟩ := hf.lens
  have keepS : ∀ X, Below (w.heap.size + 1 + 1 + 1) W X → (fun w' => Below (w.heap.size + 1 + 1 + 1) W w' ∧ w'.cell? ⟨w.heap.size, 0, none⟩ = some (.int .i64 k) ∧ w'.cell? ⟨w.heap.size, 1, none⟩ = some (.int .i64 c) ∧ w'.cell? ⟨w.heap.size + 1, 0, none⟩ = some (.int .u64 p.n) ∧ w'.cell? ⟨w.heap.size + 1, 1, none⟩ = some (.int .i64 p.v) ∧ w'.cell? ⟨w.heap.size + 1, 2, none⟩ = some (.slice a1 n1 c1) ∧ w'.cell? ⟨w.heap.size + 1 + 1, 0, none⟩ = some (.int .i64 f.t) ∧ w'.cell? ⟨w.heap.size + 1 + 1, 1, none⟩ = some (.slice ad nd cd) ∧ w'.cell? ⟨w.heap.size + 1 + 1, 2, none⟩ = some (.slice am nm cm)) X := fun X b => by
    have k1 := hp0.upB b (by omega)
    have k2 := hq0.upB b (by omega)
    rw [e1] at k1
    rw [e2, e3] at k2
    exact ⟨b, by rw [b.cell (by show w.heap.size < _; omega)]; exact ha0.1, by rw [b.cell (by show w.heap.size < _; omega)]; exact ha0.2, k1.c0, k1.c1, k1.c2, k2.c0, k2.c1, k2.c2⟩
  have HBx : Hid (Box3 W (w.heap.size + 1 + 1 + 1) (.int .u64 0) (.int .i64 0) (.slice none 0 0)) := hbx
  have HGW : Hid (Below w.heap.size w W ∧ W.heap.size = w.heap.size + 4) := ⟨gW.below, hsz⟩
  have kS := copied_own W p okp hb1
  have hzb : (n == 0) = true := by simp [hz]
  obtain ⟨J, hJe⟩ : ∃ J : P0, J = p.p0 := ⟨_, rfl⟩
  rw [← hJe] at kS ⊢
  rw [e1, e2, e3] at hW ⊢
  rw [e1] at kS
  have HW : Hid _ := hW
  rw [hW] at kS
  unfold GivesO at kS
  clear hW hp hf hb1 gW hsz hbx hq0 hp0 ha0 okp okf e1 e2 e3 hJe keepS hz
  go_enter Try.func23, Try.ntmps23
  go_wp2_with fail
  refine kS.mono ?_
  rintro e w3 ⟨r, rfl, own3, hr3, b3⟩
  rw [← HW.out] at own3 b3
  have bx := HBx.out.up b3
  obtain ⟨rn, rv, rtv, rts⟩ := r
  obtain ⟨a7, n7, c7, hv7⟩ := own_sl own3
  simp only at hv7
  subst hv7
  have HI : Hid (w3.ownsRow W.heap.size 9 1 (.slice a7 n7 c7) rts.length (sv rts) ∧ (rn, rv, rts) = J ∧ Below W.heap.size W w3) := ⟨own3, hr3, b3⟩
  have HP6 : Hid _ := bx.put (.int .u64 rn) (.int .i64 rv) (.slice a7 n7 c7)
  obtain ⟨y0, y1, y2, yf⟩ := bx
  clear kS own3 hr3 b3
  go_wp2_with fail
  obtain ⟨Y, hY⟩ : ∃ Y, Y = put3 w3 (w.heap.size + 1 + 1 + 1) (.int .u64 rn) (.int .i64 rv) (.slice a7 n7 c7) := ⟨_, rfl⟩
  have hb := HP6.out
  rw [← hY] at hb
  rw [show ((w3.setCell ⟨w.heap.size + 1 + 1 + 1, 0, none⟩ (.int .u64 rn)).setCell ⟨w.heap.size + 1 + 1 + 1, 1, none⟩ (.int .i64 rv)).setCell ⟨w.heap.size + 1 + 1 + 1, 2, none⟩ (.slice a7 n7 c7) = Y from hY.symm]
  obtain ⟨z0, z1, z2, -⟩ := hb
  refine bodyPost_ret (by simp [results, Try.results23, go_sem, z0, z1, z2]; try rfl) rfl ?_
  obtain ⟨i0, i2, i3⟩ := HI.out
  obtain ⟨g1, g2⟩ := HGW.out
  refine ⟨⟨rn, rv, .slice a7 n7 c7, rts⟩, rfl, ?_, i2, ?_⟩
  · rw [hY]
    exact own_mono (own_put3 i0 (by omega) _ _ _) (by omega)
  · rw [hY]
    exact below_put3 (g1.trans (i3.mono (by omega))) (by omega) _ _ _
end Go.Proofs.Ytkoihniggoelnaa
