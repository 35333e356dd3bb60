/- The contract of Merge. -/
import Derived.Test.YtkoihniggoelnaaCpy
import Derived.Deep.DeepCutAuto
namespace Go.Proofs.Ytkoihniggoelnaa
open Go.RowKit Go.Sort

def jv (k : Int) (p q : P0) : Int := if k = 2 then wrap64 (p.2.1 + q.2.1) else if k = 3 then min p.2.1 q.2.1 else if k = 4 then max p.2.1 q.2.1 else 0
def jt (k : Int) (p q : P0) : List Str := if k = 5 then uniL p.2.2 q.2.2 else []
def mrgP (k : Int) (p q : P0) : P0 := if p.1 = 0 ∧ q.1 = 0 then (0, 0, []) else if p.1 = 0 then q else if q.1 = 0 then p else (IntKind.u64.wrap (p.1 + q.1), jv k p q, jt k p q)
/-- Texts that may be joined. -/
def Fit (k : Int) (p q : Pt) : Prop := k = 5 → 0 < p.ts.length ∧ 0 < q.ts.length ∧ p.ts.length + q.ts.length ≤ 1000
def JoinC (f : Nat) (k : Int) : Prop := ∀ (w : World) (p q : Pt), p.Ok w → q.Ok w → Fit k p q → Calls Try.prog f #[.agg #[.int .u64 p.n, .int .i64 p.v, p.tv], .agg #[.int .u64 q.n, .int .i64 q.v, q.tv]] w (Gives (0, jv k p.p0 q.p0, jt k p.p0 q.p0) w)
def WayC (k c : Int) (x0 x1 x2 x3 x4 : Nat) : Prop := ∀ w, Calls Try.prog 25 #[.agg #[.int .i64 k, .int .i64 c]] w fun e w' => e = .returned (.agg #[fv x0, fv x1, fv x2, fv x3, fv x4]) ∧ Grows w w'
theorem way_join (k c : Int) : ∃ f x0 x1 x3 x4 : Nat, (f = 37 ∨ f = 44 ∨ f = 47 ∨ f = 48 ∨ f = 51) ∧ WayC k c x0 x1 f x3 x4 ∧ JoinC f k := by
  have hcount : (k ≠ 2 ∧ k ≠ 3 ∧ k ≠ 4 ∧ k ≠ 5) → JoinC 37 k := fun hk w p q hp hq _ => by
    have : ((0 : Int), jv k p.p0 q.p0, jt k p.p0 q.p0) = (0, 0, []) := by simp [jv, jt, hk.1, hk.2.1, hk.2.2.1, hk.2.2.2]
    rw [this]; exact countJoin_any w p q hp hq
  by_cases h1 : k = 1
  · subst h1
    exact ⟨_, _, _, _, _, .inl rfl, fun w => wayOf_1 w c, hcount (by decide)⟩
  · by_cases h2 : k = 2
    · subst h2
      exact ⟨_, _, _, _, _, .inr (.inl rfl), fun w => wayOf_2 w c, fun w p q hp hq _ => sumJoin_any w p q hp hq⟩
    · by_cases h3 : k = 3
      · subst h3
        exact ⟨_, _, _, _, _, .inr (.inr (.inl rfl)), fun w => wayOf_3 w c, fun w p q hp hq _ => minJoin_any w p q hp hq⟩
      · by_cases h4 : k = 4
        · subst h4
          exact ⟨_, _, _, _, _, .inr (.inr (.inr (.inl rfl))), fun w => wayOf_4 w c, fun w p q hp hq _ => maxJoin_any w p q hp hq⟩
        · by_cases h5 : k = 5
          · subst h5
            exact ⟨_, _, _, _, _, .inr (.inr (.inr (.inr rfl))), fun w => wayOf_5 w c, fun w p q hp hq hf => textsJoin_any w p q hp hq (hf rfl).1 (hf rfl).2.1 (hf rfl).2.2⟩
          · by_cases h0 : k = 0
            · subst h0
              exact ⟨_, _, _, _, _, .inl rfl, fun w => wayOf_0 w c, hcount (by decide)⟩
            · exact ⟨_, _, _, _, _, .inl rfl, fun w => wayOf_no w k (by omega) c, hcount ⟨h2, h3, h4, h5⟩⟩
theorem jn_alloc {W w4 : World} {r : Pt} {J : P0} (hk : r.Ok w4 ∧ r.p0 = J) (hn : New W.heap.size r.tv) (b : Below W.heap.size W w4) :
    ∃ (B7 : Nat) (r' : Pt), Value.pointer (some ⟨w4.heap.size, 0, none⟩) = .pointer (some ⟨B7, 0, none⟩) ∧ Hid (Box3 (w4.alloc (.cells #[.int .u64 r.n, .int .i64 r.v, r.tv] 30)) B7 (.int .u64 r'.n) (.int .i64 r'.v) r'.tv ∧ (∀ u, r'.Ok ((w4.alloc (.cells #[.int .u64 r.n, .int .i64 r.v, r.tv] 30)).setCell ⟨B7, 0, none⟩ u)) ∧ New W.heap.size r'.tv ∧ r'.p0 = J ∧ Below W.heap.size W (w4.alloc (.cells #[.int .u64 r.n, .int .i64 r.v, r.tv] 30)) ∧ W.heap.size ≤ B7) :=
  ⟨w4.heap.size, r, rfl, Box3.new _ _ _ _ _ _ rfl, (fun u => hk.1.up (Below.setCell ((Below.refl _ _).alloc (Nat.le_refl _) _) (Nat.le_refl _) u)), hn, hk.2, bel_alloc b _, b.size⟩
theorem Pt.Ok.off {w : World} {p : Pt} {base : Nat} (h : p.Ok w) (hn : New base p.tv) {g o : Nat} (hg : g < base) (u : Value) : p.Ok (w.setCell ⟨g, o, none⟩ u) := ⟨h.rt.off hn hg u⟩
theorem Pt.Ok.put3 {w : World} {p : Pt} {base : Nat} (h : p.Ok w) (hn : New base p.tv) {g : Nat} (hg : g < base) (x y z : Value) : p.Ok (put3 w g x y z) := ((h.off hn hg x).off hn hg y).off hn hg z
theorem jn_put {W w4 : World} {r : Pt} {J : P0} {B base : Nat} (hY : Box3 w4 B (.int .u64 0) (.int .i64 0) (.slice none 0 0)) (hk : r.Ok w4 ∧ r.p0 = J) (hn : New W.heap.size r.tv) (hN : New base r.tv) (hB : B < base) (hW : W.heap.size ≤ B) (b : Below W.heap.size W w4) :
    ∃ (B7 : Nat) (r' : Pt), Value.pointer (some ⟨B, 0, none⟩) = .pointer (some ⟨B7, 0, none⟩) ∧ Hid (Box3 (((w4.setCell ⟨B, 0, none⟩ (.int .u64 r.n)).setCell ⟨B, 1, none⟩ (.int .i64 r.v)).setCell ⟨B, 2, none⟩ r.tv) B7 (.int .u64 r'.n) (.int .i64 r'.v) r'.tv ∧ (∀ u, r'.Ok ((((w4.setCell ⟨B, 0, none⟩ (.int .u64 r.n)).setCell ⟨B, 1, none⟩ (.int .i64 r.v)).setCell ⟨B, 2, none⟩ r.tv).setCell ⟨B7, 0, none⟩ u)) ∧ New W.heap.size r'.tv ∧ r'.p0 = J ∧ Below W.heap.size W (((w4.setCell ⟨B, 0, none⟩ (.int .u64 r.n)).setCell ⟨B, 1, none⟩ (.int .i64 r.v)).setCell ⟨B, 2, none⟩ r.tv) ∧ W.heap.size ≤ B7) :=
  ⟨B, r, rfl, hY.put _ _ _, (fun u => (hk.1.put3 hN hB _ _ _).off hN hB u), hn, hk.2, below_put3 b hW _ _ _, hW⟩
theorem bel_put3 {B : Nat} {a X : World} (h : Below B a X) {g : Nat} (hg : B ≤ g) (c : Nat) (u : Value) : Below B a (X.setCell ⟨g, c, none⟩ u) := h.setCell (p := ⟨g, c, none⟩) hg u

set_option maxHeartbeats 8000000 in
theorem merge_any (w : World) (k c : Int) (p q : Pt) (hp : p.Ok w) (hq : q.Ok w) (hb1 : p.ts.length * 16 ≤ 160842843834660) (hb2 : q.ts.length * 16 ≤ 160842843834660) (hf : p.n ≠ 0 → q.n ≠ 0 → Fit k p q) :
    Calls Try.prog 21 #[.agg #[.int .i64 k, .int .i64 c], .agg #[.int .u64 p.n, .int .i64 p.v, p.tv], .agg #[.int .u64 q.n, .int .i64 q.v, q.tv]] w (Gives (mrgP k p.p0 q.p0) w) := by
  obtain ⟨W, hW⟩ : ∃ W, W = (((w.alloc (.cells #[.int .i64 k, .int .i64 c] 26)).alloc (.cells #[.int .u64 p.n, .int .i64 p.v, p.tv] 30)).alloc (.cells #[.int .u64 q.n, .int .i64 q.v, q.tv] 30)).alloc (.cells #[.int .u64 0, .int .i64 0, .slice none 0 0] 30) := ⟨_, rfl⟩
  have gW : Grows w W := by rw [hW]; exact (((Grows.alloc _ _).trans (Grows.alloc _ _)).trans (Grows.alloc _ _)).trans (Grows.alloc _ _)
  have hsz : W.heap.size = w.heap.size + 4 := by rw [hW]; simp
  have hbx : Box3 W (w.heap.size + 1 + 1 + 1) (.int .u64 0) (.int .i64 0) (.slice none 0 0) := by rw [hW]; exact Box3.new _ _ _ _ _ _ (by simp)
  have hq0 : Box3 W (w.heap.size + 1 + 1) (.int .u64 q.n) (.int .i64 q.v) q.tv := by
    rw [hW]; exact (Box3.new _ _ _ _ _ _ (by simp)).up ((Below.refl _ _).alloc (Nat.le_refl _) _)
  have hp0 : Box3 W (w.heap.size + 1) (.int .u64 p.n) (.int .i64 p.v) p.tv := by
    rw [hW]; exact (Box3.new _ _ _ _ _ _ (by simp)).up ((Grows.alloc _ _).trans (Grows.alloc _ _)).below
  have ha0 : W.cell? ⟨w.heap.size, 0, none⟩ = some (.int .i64 k) ∧ W.cell? ⟨w.heap.size, 1, none⟩ = some (.int .i64 c) := by
    rw [hW]
    exact ⟨cell_up (((Grows.alloc _ _).trans (Grows.alloc _ _)).trans (Grows.alloc _ _)).below (al_new _ _ _ rfl rfl), cell_up (((Grows.alloc _ _).trans (Grows.alloc _ _)).trans (Grows.alloc _ _)).below (al_new _ _ _ rfl rfl)⟩
  have okp := hp.up gW.below
  have okq := hq.up gW.below
  obtain ⟨a1, n1, c1, e1⟩ := hp.rt.sl
  obtain ⟨a2, n2, c2, e2⟩ := hq.rt.sl
  have keepS : ∀ X, Below W.heap.size W X → (fun w' => Below W.heap.size W w' ∧ w'.cell? ⟨w.heap.size, 0, none⟩ = some (.int .i64 k) ∧ w'.cell? ⟨w.heap.size, 1, none⟩ = some (.int .i64 c) ∧ w'.cell? ⟨w.heap.size + 1, 0, none⟩ = some (.int .u64 p.n) ∧ w'.cell? ⟨w.heap.size + 1, 1, none⟩ = some (.int .i64 p.v) ∧ w'.cell? ⟨w.heap.size + 1, 2, none⟩ = some (.slice a1 n1 c1) ∧ w'.cell? ⟨w.heap.size + 1 + 1, 0, none⟩ = some (.int .u64 q.n) ∧ w'.cell? ⟨w.heap.size + 1 + 1, 1, none⟩ = some (.int .i64 q.v) ∧ w'.cell? ⟨w.heap.size + 1 + 1, 2, none⟩ = some (.slice a2 n2 c2)) X := fun X b => by
    have k1 := hp0.up b
    have k2 := hq0.up b
    rw [e1] at k1
    rw [e2] at k2
    exact ⟨b, cell_up b ha0.1, cell_up b ha0.2, k1.c0, k1.c1, k1.c2, k2.c0, k2.c1, k2.c2⟩
  have HBx : Hid (Box3 W (w.heap.size + 1 + 1 + 1) (.int .u64 0) (.int .i64 0) (.slice none 0 0)) := hbx
  have HGW : Hid (Below w.heap.size w W ∧ W.heap.size = w.heap.size + 4) := ⟨gW.below, hsz⟩
  have HOk : Hid (p.Ok W ∧ q.Ok W) := ⟨okp, okq⟩
  have HE : Hid (p.tv = .slice a1 n1 c1 ∧ q.tv = .slice a2 n2 c2) := ⟨e1, e2⟩
  by_cases hpz : p.n = 0
  · have hpb : (p.n == 0) = true := by simp [hpz]
    by_cases hqz : q.n = 0
    · have hqb : (q.n == 0) = true := by simp [hqz]
      have hJ : mrgP k p.p0 q.p0 = (0, 0, []) := if_pos ⟨hpz, hqz⟩
      rw [hJ]
      have kS : Calls Try.prog 22 #[.agg #[.int .i64 k, .int .i64 c]] W (Gives (0, 0, []) W) := (start_any W k c).mono fun _ _ ⟨h1, h2⟩ => Gives.of 0 0 h1 rfl h2
      obtain ⟨J, hJe⟩ : ∃ J : P0, J = (0, 0, []) := ⟨_, rfl⟩
      rw [← hJe] at kS ⊢
      rw [e1, e2] at hW ⊢
      have HW : Hid _ := hW
      rw [hW] at kS
      unfold Gives at kS
      clear hW hp hq hb1 hb2 hf gW hsz hbx hq0 hp0 ha0 okp okq e1 e2 hJ hJe hpz hqz keepS HE HOk
      go_enter Try.func21, Try.ntmps21
      go_wp2_with fail
      refine kS.mono ?_
      rintro e w3 ⟨r, rfl, ok3, new3, hr3, b3⟩
      rw [← HW.out] at new3 b3
      have bx := HBx.out.up b3
      obtain ⟨rn, rv, rtv, rts⟩ := r
      obtain ⟨a7, n7, c7, hv7⟩ := ok3.rt.sl
      simp only at hv7
      subst hv7
      have HI : Hid (Pt.Ok w3 ⟨rn, rv, .slice a7 n7 c7, rts⟩ ∧ New W.heap.size (.slice a7 n7 c7) ∧ (rn, rv, rts) = J ∧ Below W.heap.size W w3) := ⟨ok3, new3, hr3, b3⟩
      have HP6 : Hid _ := bx.put (.int .u64 rn) (.int .i64 rv) (.slice a7 n7 c7)
      obtain ⟨y0, y1, y2, yf⟩ := bx
      clear kS ok3 new3 hr3 b3
      go_wp2_with fail
      obtain ⟨Y, hY⟩ : ∃ Y, Y = put3 w3 (w.heap.size + 1 + 1 + 1) (.int .u64 rn) (.int .i64 rv) (.slice a7 n7 c7) := ⟨_, rfl⟩
      have hb := HP6.out
      rw [← hY] at hb
      rw [show ((w3.setCell ⟨w.heap.size + 1 + 1 + 1, 0, none⟩ (.int .u64 rn)).setCell ⟨w.heap.size + 1 + 1 + 1, 1, none⟩ (.int .i64 rv)).setCell ⟨w.heap.size + 1 + 1 + 1, 2, none⟩ (.slice a7 n7 c7) = Y from hY.symm]
      obtain ⟨z0, z1, z2, -⟩ := hb
      refine bodyPost_ret (by simp [results, Try.results21, go_sem, z0, z1, z2]; try rfl) rfl ?_
      obtain ⟨i0, i1, i2, i3⟩ := HI.out
      obtain ⟨g1, g2⟩ := HGW.out
      refine ⟨⟨rn, rv, .slice a7 n7 c7, rts⟩, rfl, ?_, i1.mono (by omega), i2, ?_⟩
      · rw [hY]
        exact i0.put3 i1 (by omega) _ _ _
      · rw [hY]
        exact below_put3 (g1.trans (i3.mono (by omega))) (by omega) _ _ _
    · have hqb : (q.n == 0) = false := by simp [hqz]
      have hJ : mrgP k p.p0 q.p0 = q.p0 := by
        show (if p.n = 0 ∧ q.n = 0 then ((0 : Int), (0 : Int), ([] : List Str)) else if p.n = 0 then q.p0 else _) = _
        rw [if_neg (fun h => hqz h.2), if_pos hpz]
      rw [hJ]
      have kS := copied_any W q okq hb2
      obtain ⟨J, hJe⟩ : ∃ J : P0, J = q.p0 := ⟨_, rfl⟩
      rw [← hJe] at kS ⊢
      rw [e1, e2] at hW ⊢
      rw [e2] at kS
      have HW : Hid _ := hW
      rw [hW] at kS
      unfold Gives at kS
      clear hW hp hq hb1 hb2 hf gW hsz hbx hq0 hp0 ha0 okp okq e1 e2 hJ hJe hpz hqz keepS HE HOk
      go_enter Try.func21, Try.ntmps21
      go_wp2_with fail
      refine kS.mono ?_
      rintro e w3 ⟨r, rfl, ok3, new3, hr3, b3⟩
      rw [← HW.out] at new3 b3
      have bx := HBx.out.up b3
      obtain ⟨rn, rv, rtv, rts⟩ := r
      obtain ⟨a7, n7, c7, hv7⟩ := ok3.rt.sl
      simp only at hv7
      subst hv7
      have HI : Hid (Pt.Ok w3 ⟨rn, rv, .slice a7 n7 c7, rts⟩ ∧ New W.heap.size (.slice a7 n7 c7) ∧ (rn, rv, rts) = J ∧ Below W.heap.size W w3) := ⟨ok3, new3, hr3, b3⟩
      have HP6 : Hid _ := bx.put (.int .u64 rn) (.int .i64 rv) (.slice a7 n7 c7)
      obtain ⟨y0, y1, y2, yf⟩ := bx
      clear kS ok3 new3 hr3 b3
      go_wp2_with fail
      obtain ⟨Y, hY⟩ : ∃ Y, Y = put3 w3 (w.heap.size + 1 + 1 + 1) (.int .u64 rn) (.int .i64 rv) (.slice a7 n7 c7) := ⟨_, rfl⟩
      have hb := HP6.out
      rw [← hY] at hb
      rw [show ((w3.setCell ⟨w.heap.size + 1 + 1 + 1, 0, none⟩ (.int .u64 rn)).setCell ⟨w.heap.size + 1 + 1 + 1, 1, none⟩ (.int .i64 rv)).setCell ⟨w.heap.size + 1 + 1 + 1, 2, none⟩ (.slice a7 n7 c7) = Y from hY.symm]
      obtain ⟨z0, z1, z2, -⟩ := hb
      refine bodyPost_ret (by simp [results, Try.results21, go_sem, z0, z1, z2]; try rfl) rfl ?_
      obtain ⟨i0, i1, i2, i3⟩ := HI.out
      obtain ⟨g1, g2⟩ := HGW.out
      refine ⟨⟨rn, rv, .slice a7 n7 c7, rts⟩, rfl, ?_, i1.mono (by omega), i2, ?_⟩
      · rw [hY]
        exact i0.put3 i1 (by omega) _ _ _
      · rw [hY]
        exact below_put3 (g1.trans (i3.mono (by omega))) (by omega) _ _ _
  · by_cases hqz : q.n = 0
    · have hpb : (p.n == 0) = false := by simp [hpz]
      have hqb : (q.n == 0) = true := by simp [hqz]
      have hJ : mrgP k p.p0 q.p0 = p.p0 := by
        show (if p.n = 0 ∧ q.n = 0 then ((0 : Int), (0 : Int), ([] : List Str)) else if p.n = 0 then q.p0 else if q.n = 0 then p.p0 else _) = _
        rw [if_neg (fun h => hpz h.1), if_neg hpz, if_pos hqz]
      rw [hJ]
      have kS := copied_any W p okp hb1
      obtain ⟨J, hJe⟩ : ∃ J : P0, J = p.p0 := ⟨_, rfl⟩
      rw [← hJe] at kS ⊢
      rw [e1, e2] at hW ⊢
      rw [e1] at kS
      have HW : Hid _ := hW
      rw [hW] at kS
      unfold Gives at kS
      clear hW hp hq hb1 hb2 hf gW hsz hbx hq0 hp0 ha0 okp okq e1 e2 hJ hJe hpz hqz keepS HE HOk
      go_enter Try.func21, Try.ntmps21
      go_wp2_with fail
      refine kS.mono ?_
      rintro e w3 ⟨r, rfl, ok3, new3, hr3, b3⟩
      rw [← HW.out] at new3 b3
      have bx := HBx.out.up b3
      obtain ⟨rn, rv, rtv, rts⟩ := r
      obtain ⟨a7, n7, c7, hv7⟩ := ok3.rt.sl
      simp only at hv7
      subst hv7
      have HI : Hid (Pt.Ok w3 ⟨rn, rv, .slice a7 n7 c7, rts⟩ ∧ New W.heap.size (.slice a7 n7 c7) ∧ (rn, rv, rts) = J ∧ Below W.heap.size W w3) := ⟨ok3, new3, hr3, b3⟩
      have HP6 : Hid _ := bx.put (.int .u64 rn) (.int .i64 rv) (.slice a7 n7 c7)
      obtain ⟨y0, y1, y2, yf⟩ := bx
      clear kS ok3 new3 hr3 b3
      go_wp2_with fail
      obtain ⟨Y, hY⟩ : ∃ Y, Y = put3 w3 (w.heap.size + 1 + 1 + 1) (.int .u64 rn) (.int .i64 rv) (.slice a7 n7 c7) := ⟨_, rfl⟩
      have hb := HP6.out
      rw [← hY] at hb
      rw [show ((w3.setCell ⟨w.heap.size + 1 + 1 + 1, 0, none⟩ (.int .u64 rn)).setCell ⟨w.heap.size + 1 + 1 + 1, 1, none⟩ (.int .i64 rv)).setCell ⟨w.heap.size + 1 + 1 + 1, 2, none⟩ (.slice a7 n7 c7) = Y from hY.symm]
      obtain ⟨z0, z1, z2, -⟩ := hb
      refine bodyPost_ret (by simp [results, Try.results21, go_sem, z0, z1, z2]; try rfl) rfl ?_
      obtain ⟨i0, i1, i2, i3⟩ := HI.out
      obtain ⟨g1, g2⟩ := HGW.out
      refine ⟨⟨rn, rv, .slice a7 n7 c7, rts⟩, rfl, ?_, i1.mono (by omega), i2, ?_⟩
      · rw [hY]
        exact i0.put3 i1 (by omega) _ _ _
      · rw [hY]
        exact below_put3 (g1.trans (i3.mono (by omega))) (by omega) _ _ _
    · obtain ⟨f, x0, x1, x3, x4, hfn, kW, kJ0⟩ := way_join k c
      have hJ : mrgP k p.p0 q.p0 = (IntKind.u64.wrap (p.n + q.n), jv k p.p0 q.p0, jt k p.p0 q.p0) := by
        show (if p.n = 0 ∧ q.n = 0 then ((0 : Int), (0 : Int), ([] : List Str)) else if p.n = 0 then q.p0 else if q.n = 0 then p.p0 else (IntKind.u64.wrap (p.n + q.n), jv k p.p0 q.p0, jt k p.p0 q.p0)) = _
        rw [if_neg (fun h => hpz h.1), if_neg hpz, if_neg hqz]
      rw [hJ]
      have kJ : ∀ X, Below W.heap.size W X → Calls Try.prog f #[.agg #[.int .u64 p.n, .int .i64 p.v, .slice a1 n1 c1], .agg #[.int .u64 q.n, .int .i64 q.v, .slice a2 n2 c2]] X (Gives (0, jv k p.p0 q.p0, jt k p.p0 q.p0) X) := fun X b => by
        have := kJ0 X p q (okp.up b) (okq.up b) (hf hpz hqz)
        rw [e1, e2] at this
        exact this
      unfold Gives at kJ
      obtain ⟨J, hJe⟩ : ∃ J : P0, J = (0, jv k p.p0 q.p0, jt k p.p0 q.p0) := ⟨_, rfl⟩
      rw [← hJe] at kJ
      have HJ : Hid (J = (0, jv k p.p0 q.p0, jt k p.p0 q.p0)) := hJe
      unfold WayC at kW
      simp only [fv] at kW
      have hfd : ∀ w : World, (Instr.field 61 (.agg #[.func (.func x0) #[] #[], .func (.func x1) #[] #[], .func (.func f) #[] #[], .func (.func x3) #[] #[], .func (.func x4) #[] #[]]) 2).run Try.prog w = .ok (.func (.func f) #[] #[]) w := fun _ => by kernel_rfl
      have hpb : (p.n == 0) = false := by simp [hpz]
      have hqb : (q.n == 0) = false := by simp [hqz]
      have mixed : Try.prog.follows .mixedOrders = true := by kernel_rfl
      rw [e1, e2] at hW ⊢
      have HW : Hid _ := hW
      clear hW hp hq hb1 hb2 hf gW hsz hbx hq0 hp0 ha0 okp okq e1 e2 kJ0 hJ hJe hpz hqz
      go_enter Try.func21, Try.ntmps21
      rcases hfn with rfl | rfl | rfl | rfl | rfl
      · go_wp2_with fail
        rw [← HW.out]
        go_cut [7] (fun t wA => ∃ (B7 : Nat) (r : Pt), t = .pointer (some ⟨B7, 0, none⟩) ∧ Hid (Box3 wA B7 (.int .u64 r.n) (.int .i64 r.v) r.tv ∧ (∀ u, r.Ok (wA.setCell ⟨B7, 0, none⟩ u)) ∧ New W.heap.size r.tv ∧ r.p0 = J ∧ Below W.heap.size W wA ∧ W.heap.size ≤ B7))
        case first =>
          go_region_held (fun w' => Below W.heap.size W w' ∧ w'.cell? ⟨w.heap.size, 0, none⟩ = some (.int .i64 k) ∧ w'.cell? ⟨w.heap.size, 1, none⟩ = some (.int .i64 c) ∧ w'.cell? ⟨w.heap.size + 1, 0, none⟩ = some (.int .u64 p.n) ∧ w'.cell? ⟨w.heap.size + 1, 1, none⟩ = some (.int .i64 p.v) ∧ w'.cell? ⟨w.heap.size + 1, 2, none⟩ = some (.slice a1 n1 c1) ∧ w'.cell? ⟨w.heap.size + 1 + 1, 0, none⟩ = some (.int .u64 q.n) ∧ w'.cell? ⟨w.heap.size + 1 + 1, 1, none⟩ = some (.int .i64 q.v) ∧ w'.cell? ⟨w.heap.size + 1 + 1, 2, none⟩ = some (.slice a2 n2 c2))
            (exact keepS _ (by repeat' (first | with_reducible assumption | with_reducible exact Below.refl _ _ | with_reducible refine Below.drew ?_ | with_reducible refine bel_alloc ?_ _ | with_reducible refine bel_put3 ?_ ?_ _ _ | with_reducible refine Nat.le_refl _ | omega)))
            (first
              | (go_at_call 25; (with_reducible refine (kW _).mono ?_); rintro e3 w3 ⟨rfl, g3⟩; have B3 : Below W.heap.size W w3 := bel_trans (by repeat' (first | with_reducible assumption | with_reducible exact Below.refl _ _ | with_reducible refine Below.drew ?_ | with_reducible refine bel_alloc ?_ _ | with_reducible refine bel_put3 ?_ ?_ _ _ | with_reducible refine Nat.le_refl _ | omega)) g3.below; have hs3 := B3.size; (first | (have Z1 : Box3 w3 W.heap.size (.int .u64 0) (.int .i64 0) (.slice none 0 0) := Box3.up ((Box3.new W _ _ _ 30 _ rfl).up (Below.drew (Below.refl _ _))) g3.below; have HZ1 : Hid (Box3 w3 W.heap.size (.int .u64 0) (.int .i64 0) (.slice none 0 0)) := Z1; obtain ⟨x0, x1, x2, xf⟩ := Z1) | (have Z1 : Box3 w3 W.heap.size (.int .u64 0) (.int .i64 0) (.slice none 0 0) := Box3.up (Box3.new W.drew _ _ _ 30 _ rfl) g3.below; have HZ1 : Hid (Box3 w3 W.heap.size (.int .u64 0) (.int .i64 0) (.slice none 0 0)) := Z1; obtain ⟨x0, x1, x2, xf⟩ := Z1) | skip))
              | (go_at_call 37; (with_reducible refine (kJ _ (by repeat' (first | with_reducible assumption | with_reducible exact Below.refl _ _ | with_reducible refine Below.drew ?_ | with_reducible refine bel_alloc ?_ _ | with_reducible refine bel_put3 ?_ ?_ _ _ | with_reducible refine Nat.le_refl _ | omega))).mono ?_); rintro e4 w4 ⟨r, rfl, ok4, new4, hr4, b4⟩; have B4 : Below W.heap.size W w4 := bel_trans (by repeat' (first | with_reducible assumption | with_reducible exact Below.refl _ _ | with_reducible refine Below.drew ?_ | with_reducible refine bel_alloc ?_ _ | with_reducible refine bel_put3 ?_ ?_ _ _ | with_reducible refine Nat.le_refl _ | omega)) b4; have hs4 := b4.size; (first | (have Y1 : Box3 w4 W.heap.size (.int .u64 0) (.int .i64 0) (.slice none 0 0) := HZ1.out.up b4; have hN4 : Hid (New w3.heap.size r.tv ∧ W.heap.size < w3.heap.size) := ⟨new4, HZ1.out.lt⟩; have HY1 : Hid (Box3 w4 W.heap.size (.int .u64 0) (.int .i64 0) (.slice none 0 0)) := Y1; obtain ⟨y0, y1, y2, yf⟩ := Y1) | (have Y1 : Box3 w4 w3.heap.size (.int .u64 0) (.int .i64 0) (.slice none 0 0) := Box3.up (Box3.new w3 _ _ _ 30 _ rfl) b4; have hN4 : Hid (New (w3.heap.size + 1) r.tv) := (by have := new4; simp at this; exact this); have HY1 : Hid (Box3 w4 w3.heap.size (.int .u64 0) (.int .i64 0) (.slice none 0 0)) := Y1; obtain ⟨y0, y1, y2, yf⟩ := Y1) | skip); have HK4 : Hid (r.Ok w4 ∧ r.p0 = J) := ⟨ok4, hr4⟩; have HNW : Hid (New W.heap.size r.tv) := (New.mono new4 (by first | exact hs3 | (simp; omega) | omega)); obtain ⟨a4, n4, c4, hv4⟩ := ok4.rt.sl; obtain ⟨rn, rv, rtv, rts⟩ := r; simp only at hv4; subst hv4; clear ok4 new4 hr4))
          all_goals
            go_wp2_with fail
            go_meet
            case rel =>
              first
                | with_reducible exact jn_alloc (r := ⟨rn, rv, .slice a4 n4 c4, rts⟩) HK4.out HNW.out B4
                | with_reducible exact jn_put (r := ⟨rn, rv, .slice a4 n4 c4, rts⟩) HY1.out HK4.out HNW.out hN4.out.1 hN4.out.2 (Nat.le_refl _) B4
                | with_reducible exact jn_put (r := ⟨rn, rv, .slice a4 n4 c4, rts⟩) HY1.out HK4.out HNW.out hN4.out (Nat.lt_succ_self _) hs3 B4
        case rest =>
          rename World => wA
          obtain ⟨B7, r, rfl, HR⟩ := hcut
          obtain ⟨bx7, ok7, new7, hr7, b7, hle7⟩ := HR.out
          obtain ⟨a7, n7, c7, hv7⟩ := (ok7 (.int .u64 0)).rt.sl
          obtain ⟨rn, rv, rtv, rts⟩ := r
          simp only at hv7
          subst hv7
          simp only at bx7
          obtain ⟨g1, g2⟩ := HGW.out
          have bx6 := HBx.out.up b7
          obtain ⟨-, -, -, pn0, -, -, qn0, -, -⟩ := keepS wA b7
          obtain ⟨s0, s1, s2, sf⟩ := bx7
          obtain ⟨t0, t1, t2, tf⟩ := bx6
          have hN : ∀ N : Int, Box3 (wA.setCell ⟨B7, 0, none⟩ (.int .u64 N)) (w.heap.size + 1 + 1 + 1) (.int .u64 0) (.int .i64 0) (.slice none 0 0) ∧ Box3 (wA.setCell ⟨B7, 0, none⟩ (.int .u64 N)) B7 (.int .u64 N) (.int .i64 rv) (.slice a7 n7 c7) := fun N => by
            refine ⟨⟨?_, ?_, ?_, fun c => by simpa using tf c⟩, ⟨?_, ?_, ?_, fun c => by simpa using sf c⟩⟩
            · rw [World.cell?_setCell_other _ _ _ _ (by simp <;> omega)]; exact t0
            · rw [World.cell?_setCell_other _ _ _ _ (by simp)]; exact t1
            · rw [World.cell?_setCell_other _ _ _ _ (by simp)]; exact t2
            · exact World.cell?_setCell_same _ _ _ s0
            · rw [World.cell?_setCell_other _ _ _ _ (by simp)]; exact s1
            · rw [World.cell?_setCell_other _ _ _ _ (by simp)]; exact s2
          obtain ⟨hN1, hN2⟩ := hN (IntKind.u64.wrap (p.n + q.n))
          have HP6 : Hid _ := hN1.put (.int .u64 (IntKind.u64.wrap (p.n + q.n))) (.int .i64 rv) (.slice a7 n7 c7)
          have HOk7 : Hid _ := ok7 (.int .u64 (IntKind.u64.wrap (p.n + q.n)))
          have HI7 : Hid (New W.heap.size (.slice a7 n7 c7) ∧ (rn, rv, rts) = J ∧ Below W.heap.size W wA ∧ W.heap.size ≤ B7) := ⟨new7, hr7, b7, hle7⟩
          obtain ⟨u0, u1, u2, -⟩ := hN2
          obtain ⟨v0, v1, v2, vf⟩ := hN1
          have vf0 := vf 0
          have vf1 := vf 1
          have vf2 := vf 2
          have sf0 := sf 0
          clear hN hr7 ok7 new7 b7 hle7 g1 g2 keepS kW kJ HR s1 s2 t0 t1 t2 tf sf
          go_wp2_with fail
          obtain ⟨Y, hY⟩ : ∃ Y, Y = put3 (wA.setCell ⟨B7, 0, none⟩ (.int .u64 (IntKind.u64.wrap (p.n + q.n)))) (w.heap.size + 1 + 1 + 1) (.int .u64 (IntKind.u64.wrap (p.n + q.n))) (.int .i64 rv) (.slice a7 n7 c7) := ⟨_, rfl⟩
          have hb := HP6.out
          rw [← hY] at hb
          rw [show (((wA.setCell ⟨B7, 0, none⟩ (.int .u64 (IntKind.u64.wrap (p.n + q.n)))).setCell ⟨w.heap.size + 1 + 1 + 1, 0, none⟩ (.int .u64 (IntKind.u64.wrap (p.n + q.n)))).setCell ⟨w.heap.size + 1 + 1 + 1, 1, none⟩ (.int .i64 rv)).setCell ⟨w.heap.size + 1 + 1 + 1, 2, none⟩ (.slice a7 n7 c7) = Y from hY.symm]
          obtain ⟨z0, z1, z2, -⟩ := hb
          refine bodyPost_ret (by simp [results, Try.results21, go_sem, z0, z1, z2]; try rfl) rfl ?_
          obtain ⟨i1, i2, i3, i4⟩ := HI7.out
          obtain ⟨g1, g2⟩ := HGW.out
          have hJ2 := i2.trans HJ.out
          simp only [Prod.mk.injEq] at hJ2
          refine ⟨⟨IntKind.u64.wrap (p.n + q.n), rv, .slice a7 n7 c7, rts⟩, rfl, ?_, i1.mono (by omega), ?_, ?_⟩
          · have := HOk7.out.put3 (base := W.heap.size) i1 (g := w.heap.size + 1 + 1 + 1) (by omega) (.int .u64 (IntKind.u64.wrap (p.n + q.n))) (.int .i64 rv) (.slice a7 n7 c7)
            rw [hY]
            exact ⟨this.rt⟩
          · show (_, rv, rts) = _
            rw [hJ2.2.1, hJ2.2.2]
          · rw [hY]
            exact below_put3 ((g1.trans (i3.mono (by omega))).setCell (p := ⟨B7, 0, none⟩) (by show w.heap.size ≤ B7; omega) _) (by omega) _ _ _
      · go_wp2_with fail
        rw [← HW.out]
        go_cut [7] (fun t wA => ∃ (B7 : Nat) (r : Pt), t = .pointer (some ⟨B7, 0, none⟩) ∧ Hid (Box3 wA B7 (.int .u64 r.n) (.int .i64 r.v) r.tv ∧ (∀ u, r.Ok (wA.setCell ⟨B7, 0, none⟩ u)) ∧ New W.heap.size r.tv ∧ r.p0 = J ∧ Below W.heap.size W wA ∧ W.heap.size ≤ B7))
        case first =>
          go_region_held (fun w' => Below W.heap.size W w' ∧ w'.cell? ⟨w.heap.size, 0, none⟩ = some (.int .i64 k) ∧ w'.cell? ⟨w.heap.size, 1, none⟩ = some (.int .i64 c) ∧ w'.cell? ⟨w.heap.size + 1, 0, none⟩ = some (.int .u64 p.n) ∧ w'.cell? ⟨w.heap.size + 1, 1, none⟩ = some (.int .i64 p.v) ∧ w'.cell? ⟨w.heap.size + 1, 2, none⟩ = some (.slice a1 n1 c1) ∧ w'.cell? ⟨w.heap.size + 1 + 1, 0, none⟩ = some (.int .u64 q.n) ∧ w'.cell? ⟨w.heap.size + 1 + 1, 1, none⟩ = some (.int .i64 q.v) ∧ w'.cell? ⟨w.heap.size + 1 + 1, 2, none⟩ = some (.slice a2 n2 c2))
            (exact keepS _ (by repeat' (first | with_reducible assumption | with_reducible exact Below.refl _ _ | with_reducible refine Below.drew ?_ | with_reducible refine bel_alloc ?_ _ | with_reducible refine bel_put3 ?_ ?_ _ _ | with_reducible refine Nat.le_refl _ | omega)))
            (first
              | (go_at_call 25; (with_reducible refine (kW _).mono ?_); rintro e3 w3 ⟨rfl, g3⟩; have B3 : Below W.heap.size W w3 := bel_trans (by repeat' (first | with_reducible assumption | with_reducible exact Below.refl _ _ | with_reducible refine Below.drew ?_ | with_reducible refine bel_alloc ?_ _ | with_reducible refine bel_put3 ?_ ?_ _ _ | with_reducible refine Nat.le_refl _ | omega)) g3.below; have hs3 := B3.size; (first | (have Z1 : Box3 w3 W.heap.size (.int .u64 0) (.int .i64 0) (.slice none 0 0) := Box3.up ((Box3.new W _ _ _ 30 _ rfl).up (Below.drew (Below.refl _ _))) g3.below; have HZ1 : Hid (Box3 w3 W.heap.size (.int .u64 0) (.int .i64 0) (.slice none 0 0)) := Z1; obtain ⟨x0, x1, x2, xf⟩ := Z1) | (have Z1 : Box3 w3 W.heap.size (.int .u64 0) (.int .i64 0) (.slice none 0 0) := Box3.up (Box3.new W.drew _ _ _ 30 _ rfl) g3.below; have HZ1 : Hid (Box3 w3 W.heap.size (.int .u64 0) (.int .i64 0) (.slice none 0 0)) := Z1; obtain ⟨x0, x1, x2, xf⟩ := Z1) | skip))
              | (go_at_call 44; (with_reducible refine (kJ _ (by repeat' (first | with_reducible assumption | with_reducible exact Below.refl _ _ | with_reducible refine Below.drew ?_ | with_reducible refine bel_alloc ?_ _ | with_reducible refine bel_put3 ?_ ?_ _ _ | with_reducible refine Nat.le_refl _ | omega))).mono ?_); rintro e4 w4 ⟨r, rfl, ok4, new4, hr4, b4⟩; have B4 : Below W.heap.size W w4 := bel_trans (by repeat' (first | with_reducible assumption | with_reducible exact Below.refl _ _ | with_reducible refine Below.drew ?_ | with_reducible refine bel_alloc ?_ _ | with_reducible refine bel_put3 ?_ ?_ _ _ | with_reducible refine Nat.le_refl _ | omega)) b4; have hs4 := b4.size; (first | (have Y1 : Box3 w4 W.heap.size (.int .u64 0) (.int .i64 0) (.slice none 0 0) := HZ1.out.up b4; have hN4 : Hid (New w3.heap.size r.tv ∧ W.heap.size < w3.heap.size) := ⟨new4, HZ1.out.lt⟩; have HY1 : Hid (Box3 w4 W.heap.size (.int .u64 0) (.int .i64 0) (.slice none 0 0)) := Y1; obtain ⟨y0, y1, y2, yf⟩ := Y1) | (have Y1 : Box3 w4 w3.heap.size (.int .u64 0) (.int .i64 0) (.slice none 0 0) := Box3.up (Box3.new w3 _ _ _ 30 _ rfl) b4; have hN4 : Hid (New (w3.heap.size + 1) r.tv) := (by have := new4; simp at this; exact this); have HY1 : Hid (Box3 w4 w3.heap.size (.int .u64 0) (.int .i64 0) (.slice none 0 0)) := Y1; obtain ⟨y0, y1, y2, yf⟩ := Y1) | skip); have HK4 : Hid (r.Ok w4 ∧ r.p0 = J) := ⟨ok4, hr4⟩; have HNW : Hid (New W.heap.size r.tv) := (New.mono new4 (by first | exact hs3 | (simp; omega) | omega)); obtain ⟨a4, n4, c4, hv4⟩ := ok4.rt.sl; obtain ⟨rn, rv, rtv, rts⟩ := r; simp only at hv4; subst hv4; clear ok4 new4 hr4))
          all_goals
            go_wp2_with fail
            go_meet
            case rel =>
              first
                | with_reducible exact jn_alloc (r := ⟨rn, rv, .slice a4 n4 c4, rts⟩) HK4.out HNW.out B4
                | with_reducible exact jn_put (r := ⟨rn, rv, .slice a4 n4 c4, rts⟩) HY1.out HK4.out HNW.out hN4.out.1 hN4.out.2 (Nat.le_refl _) B4
                | with_reducible exact jn_put (r := ⟨rn, rv, .slice a4 n4 c4, rts⟩) HY1.out HK4.out HNW.out hN4.out (Nat.lt_succ_self _) hs3 B4
        case rest =>
          rename World => wA
          obtain ⟨B7, r, rfl, HR⟩ := hcut
          obtain ⟨bx7, ok7, new7, hr7, b7, hle7⟩ := HR.out
          obtain ⟨a7, n7, c7, hv7⟩ := (ok7 (.int .u64 0)).rt.sl
          obtain ⟨rn, rv, rtv, rts⟩ := r
          simp only at hv7
          subst hv7
          simp only at bx7
          obtain ⟨g1, g2⟩ := HGW.out
          have bx6 := HBx.out.up b7
          obtain ⟨-, -, -, pn0, -, -, qn0, -, -⟩ := keepS wA b7
          obtain ⟨s0, s1, s2, sf⟩ := bx7
          obtain ⟨t0, t1, t2, tf⟩ := bx6
          have hN : ∀ N : Int, Box3 (wA.setCell ⟨B7, 0, none⟩ (.int .u64 N)) (w.heap.size + 1 + 1 + 1) (.int .u64 0) (.int .i64 0) (.slice none 0 0) ∧ Box3 (wA.setCell ⟨B7, 0, none⟩ (.int .u64 N)) B7 (.int .u64 N) (.int .i64 rv) (.slice a7 n7 c7) := fun N => by
            refine ⟨⟨?_, ?_, ?_, fun c => by simpa using tf c⟩, ⟨?_, ?_, ?_, fun c => by simpa using sf c⟩⟩
            · rw [World.cell?_setCell_other _ _ _ _ (by simp <;> omega)]; exact t0
            · rw [World.cell?_setCell_other _ _ _ _ (by simp)]; exact t1
            · rw [World.cell?_setCell_other _ _ _ _ (by simp)]; exact t2
            · exact World.cell?_setCell_same _ _ _ s0
            · rw [World.cell?_setCell_other _ _ _ _ (by simp)]; exact s1
            · rw [World.cell?_setCell_other _ _ _ _ (by simp)]; exact s2
          obtain ⟨hN1, hN2⟩ := hN (IntKind.u64.wrap (p.n + q.n))
          have HP6 : Hid _ := hN1.put (.int .u64 (IntKind.u64.wrap (p.n + q.n))) (.int .i64 rv) (.slice a7 n7 c7)
          have HOk7 : Hid _ := ok7 (.int .u64 (IntKind.u64.wrap (p.n + q.n)))
          have HI7 : Hid (New W.heap.size (.slice a7 n7 c7) ∧ (rn, rv, rts) = J ∧ Below W.heap.size W wA ∧ W.heap.size ≤ B7) := ⟨new7, hr7, b7, hle7⟩
          obtain ⟨u0, u1, u2, -⟩ := hN2
          obtain ⟨v0, v1, v2, vf⟩ := hN1
          have vf0 := vf 0
          have vf1 := vf 1
          have vf2 := vf 2
          have sf0 := sf 0
          clear hN hr7 ok7 new7 b7 hle7 g1 g2 keepS kW kJ HR s1 s2 t0 t1 t2 tf sf
          go_wp2_with fail
          obtain ⟨Y, hY⟩ : ∃ Y, Y = put3 (wA.setCell ⟨B7, 0, none⟩ (.int .u64 (IntKind.u64.wrap (p.n + q.n)))) (w.heap.size + 1 + 1 + 1) (.int .u64 (IntKind.u64.wrap (p.n + q.n))) (.int .i64 rv) (.slice a7 n7 c7) := ⟨_, rfl⟩
          have hb := HP6.out
          rw [← hY] at hb
          rw [show (((wA.setCell ⟨B7, 0, none⟩ (.int .u64 (IntKind.u64.wrap (p.n + q.n)))).setCell ⟨w.heap.size + 1 + 1 + 1, 0, none⟩ (.int .u64 (IntKind.u64.wrap (p.n + q.n)))).setCell ⟨w.heap.size + 1 + 1 + 1, 1, none⟩ (.int .i64 rv)).setCell ⟨w.heap.size + 1 + 1 + 1, 2, none⟩ (.slice a7 n7 c7) = Y from hY.symm]
          obtain ⟨z0, z1, z2, -⟩ := hb
          refine bodyPost_ret (by simp [results, Try.results21, go_sem, z0, z1, z2]; try rfl) rfl ?_
          obtain ⟨i1, i2, i3, i4⟩ := HI7.out
          obtain ⟨g1, g2⟩ := HGW.out
          have hJ2 := i2.trans HJ.out
          simp only [Prod.mk.injEq] at hJ2
          refine ⟨⟨IntKind.u64.wrap (p.n + q.n), rv, .slice a7 n7 c7, rts⟩, rfl, ?_, i1.mono (by omega), ?_, ?_⟩
          · have := HOk7.out.put3 (base := W.heap.size) i1 (g := w.heap.size + 1 + 1 + 1) (by omega) (.int .u64 (IntKind.u64.wrap (p.n + q.n))) (.int .i64 rv) (.slice a7 n7 c7)
            rw [hY]
            exact ⟨this.rt⟩
          · show (_, rv, rts) = _
            rw [hJ2.2.1, hJ2.2.2]
          · rw [hY]
            exact below_put3 ((g1.trans (i3.mono (by omega))).setCell (p := ⟨B7, 0, none⟩) (by show w.heap.size ≤ B7; omega) _) (by omega) _ _ _
      · go_wp2_with fail
        rw [← HW.out]
        go_cut [7] (fun t wA => ∃ (B7 : Nat) (r : Pt), t = .pointer (some ⟨B7, 0, none⟩) ∧ Hid (Box3 wA B7 (.int .u64 r.n) (.int .i64 r.v) r.tv ∧ (∀ u, r.Ok (wA.setCell ⟨B7, 0, none⟩ u)) ∧ New W.heap.size r.tv ∧ r.p0 = J ∧ Below W.heap.size W wA ∧ W.heap.size ≤ B7))
        case first =>
          go_region_held (fun w' => Below W.heap.size W w' ∧ w'.cell? ⟨w.heap.size, 0, none⟩ = some (.int .i64 k) ∧ w'.cell? ⟨w.heap.size, 1, none⟩ = some (.int .i64 c) ∧ w'.cell? ⟨w.heap.size + 1, 0, none⟩ = some (.int .u64 p.n) ∧ w'.cell? ⟨w.heap.size + 1, 1, none⟩ = some (.int .i64 p.v) ∧ w'.cell? ⟨w.heap.size + 1, 2, none⟩ = some (.slice a1 n1 c1) ∧ w'.cell? ⟨w.heap.size + 1 + 1, 0, none⟩ = some (.int .u64 q.n) ∧ w'.cell? ⟨w.heap.size + 1 + 1, 1, none⟩ = some (.int .i64 q.v) ∧ w'.cell? ⟨w.heap.size + 1 + 1, 2, none⟩ = some (.slice a2 n2 c2))
            (exact keepS _ (by repeat' (first | with_reducible assumption | with_reducible exact Below.refl _ _ | with_reducible refine Below.drew ?_ | with_reducible refine bel_alloc ?_ _ | with_reducible refine bel_put3 ?_ ?_ _ _ | with_reducible refine Nat.le_refl _ | omega)))
            (first
              | (go_at_call 25; (with_reducible refine (kW _).mono ?_); rintro e3 w3 ⟨rfl, g3⟩; have B3 : Below W.heap.size W w3 := bel_trans (by repeat' (first | with_reducible assumption | with_reducible exact Below.refl _ _ | with_reducible refine Below.drew ?_ | with_reducible refine bel_alloc ?_ _ | with_reducible refine bel_put3 ?_ ?_ _ _ | with_reducible refine Nat.le_refl _ | omega)) g3.below; have hs3 := B3.size; (first | (have Z1 : Box3 w3 W.heap.size (.int .u64 0) (.int .i64 0) (.slice none 0 0) := Box3.up ((Box3.new W _ _ _ 30 _ rfl).up (Below.drew (Below.refl _ _))) g3.below; have HZ1 : Hid (Box3 w3 W.heap.size (.int .u64 0) (.int .i64 0) (.slice none 0 0)) := Z1; obtain ⟨x0, x1, x2, xf⟩ := Z1) | (have Z1 : Box3 w3 W.heap.size (.int .u64 0) (.int .i64 0) (.slice none 0 0) := Box3.up (Box3.new W.drew _ _ _ 30 _ rfl) g3.below; have HZ1 : Hid (Box3 w3 W.heap.size (.int .u64 0) (.int .i64 0) (.slice none 0 0)) := Z1; obtain ⟨x0, x1, x2, xf⟩ := Z1) | skip))
              | (go_at_call 47; (with_reducible refine (kJ _ (by repeat' (first | with_reducible assumption | with_reducible exact Below.refl _ _ | with_reducible refine Below.drew ?_ | with_reducible refine bel_alloc ?_ _ | with_reducible refine bel_put3 ?_ ?_ _ _ | with_reducible refine Nat.le_refl _ | omega))).mono ?_); rintro e4 w4 ⟨r, rfl, ok4, new4, hr4, b4⟩; have B4 : Below W.heap.size W w4 := bel_trans (by repeat' (first | with_reducible assumption | with_reducible exact Below.refl _ _ | with_reducible refine Below.drew ?_ | with_reducible refine bel_alloc ?_ _ | with_reducible refine bel_put3 ?_ ?_ _ _ | with_reducible refine Nat.le_refl _ | omega)) b4; have hs4 := b4.size; (first | (have Y1 : Box3 w4 W.heap.size (.int .u64 0) (.int .i64 0) (.slice none 0 0) := HZ1.out.up b4; have hN4 : Hid (New w3.heap.size r.tv ∧ W.heap.size < w3.heap.size) := ⟨new4, HZ1.out.lt⟩; have HY1 : Hid (Box3 w4 W.heap.size (.int .u64 0) (.int .i64 0) (.slice none 0 0)) := Y1; obtain ⟨y0, y1, y2, yf⟩ := Y1) | (have Y1 : Box3 w4 w3.heap.size (.int .u64 0) (.int .i64 0) (.slice none 0 0) := Box3.up (Box3.new w3 _ _ _ 30 _ rfl) b4; have hN4 : Hid (New (w3.heap.size + 1) r.tv) := (by have := new4; simp at this; exact this); have HY1 : Hid (Box3 w4 w3.heap.size (.int .u64 0) (.int .i64 0) (.slice none 0 0)) := Y1; obtain ⟨y0, y1, y2, yf⟩ := Y1) | skip); have HK4 : Hid (r.Ok w4 ∧ r.p0 = J) := ⟨ok4, hr4⟩; have HNW : Hid (New W.heap.size r.tv) := (New.mono new4 (by first | exact hs3 | (simp; omega) | omega)); obtain ⟨a4, n4, c4, hv4⟩ := ok4.rt.sl; obtain ⟨rn, rv, rtv, rts⟩ := r; simp only at hv4; subst hv4; clear ok4 new4 hr4))
          all_goals
            go_wp2_with fail
            go_meet
            case rel =>
              first
                | with_reducible exact jn_alloc (r := ⟨rn, rv, .slice a4 n4 c4, rts⟩) HK4.out HNW.out B4
                | with_reducible exact jn_put (r := ⟨rn, rv, .slice a4 n4 c4, rts⟩) HY1.out HK4.out HNW.out hN4.out.1 hN4.out.2 (Nat.le_refl _) B4
                | with_reducible exact jn_put (r := ⟨rn, rv, .slice a4 n4 c4, rts⟩) HY1.out HK4.out HNW.out hN4.out (Nat.lt_succ_self _) hs3 B4
        case rest =>
          rename World => wA
          obtain ⟨B7, r, rfl, HR⟩ := hcut
          obtain ⟨bx7, ok7, new7, hr7, b7, hle7⟩ := HR.out
          obtain ⟨a7, n7, c7, hv7⟩ := (ok7 (.int .u64 0)).rt.sl
          obtain ⟨rn, rv, rtv, rts⟩ := r
          simp only at hv7
          subst hv7
          simp only at bx7
          obtain ⟨g1, g2⟩ := HGW.out
          have bx6 := HBx.out.up b7
          obtain ⟨-, -, -, pn0, -, -, qn0, -, -⟩ := keepS wA b7
          obtain ⟨s0, s1, s2, sf⟩ := bx7
          obtain ⟨t0, t1, t2, tf⟩ := bx6
          have hN : ∀ N : Int, Box3 (wA.setCell ⟨B7, 0, none⟩ (.int .u64 N)) (w.heap.size + 1 + 1 + 1) (.int .u64 0) (.int .i64 0) (.slice none 0 0) ∧ Box3 (wA.setCell ⟨B7, 0, none⟩ (.int .u64 N)) B7 (.int .u64 N) (.int .i64 rv) (.slice a7 n7 c7) := fun N => by
            refine ⟨⟨?_, ?_, ?_, fun c => by simpa using tf c⟩, ⟨?_, ?_, ?_, fun c => by simpa using sf c⟩⟩
            · rw [World.cell?_setCell_other _ _ _ _ (by simp <;> omega)]; exact t0
            · rw [World.cell?_setCell_other _ _ _ _ (by simp)]; exact t1
            · rw [World.cell?_setCell_other _ _ _ _ (by simp)]; exact t2
            · exact World.cell?_setCell_same _ _ _ s0
            · rw [World.cell?_setCell_other _ _ _ _ (by simp)]; exact s1
            · rw [World.cell?_setCell_other _ _ _ _ (by simp)]; exact s2
          obtain ⟨hN1, hN2⟩ := hN (IntKind.u64.wrap (p.n + q.n))
          have HP6 : Hid _ := hN1.put (.int .u64 (IntKind.u64.wrap (p.n + q.n))) (.int .i64 rv) (.slice a7 n7 c7)
          have HOk7 : Hid _ := ok7 (.int .u64 (IntKind.u64.wrap (p.n + q.n)))
          have HI7 : Hid (New W.heap.size (.slice a7 n7 c7) ∧ (rn, rv, rts) = J ∧ Below W.heap.size W wA ∧ W.heap.size ≤ B7) := ⟨new7, hr7, b7, hle7⟩
          obtain ⟨u0, u1, u2, -⟩ := hN2
          obtain ⟨v0, v1, v2, vf⟩ := hN1
          have vf0 := vf 0
          have vf1 := vf 1
          have vf2 := vf 2
          have sf0 := sf 0
          clear hN hr7 ok7 new7 b7 hle7 g1 g2 keepS kW kJ HR s1 s2 t0 t1 t2 tf sf
          go_wp2_with fail
          obtain ⟨Y, hY⟩ : ∃ Y, Y = put3 (wA.setCell ⟨B7, 0, none⟩ (.int .u64 (IntKind.u64.wrap (p.n + q.n)))) (w.heap.size + 1 + 1 + 1) (.int .u64 (IntKind.u64.wrap (p.n + q.n))) (.int .i64 rv) (.slice a7 n7 c7) := ⟨_, rfl⟩
          have hb := HP6.out
          rw [← hY] at hb
          rw [show (((wA.setCell ⟨B7, 0, none⟩ (.int .u64 (IntKind.u64.wrap (p.n + q.n)))).setCell ⟨w.heap.size + 1 + 1 + 1, 0, none⟩ (.int .u64 (IntKind.u64.wrap (p.n + q.n)))).setCell ⟨w.heap.size + 1 + 1 + 1, 1, none⟩ (.int .i64 rv)).setCell ⟨w.heap.size + 1 + 1 + 1, 2, none⟩ (.slice a7 n7 c7) = Y from hY.symm]
          obtain ⟨z0, z1, z2, -⟩ := hb
          refine bodyPost_ret (by simp [results, Try.results21, go_sem, z0, z1, z2]; try rfl) rfl ?_
          obtain ⟨i1, i2, i3, i4⟩ := HI7.out
          obtain ⟨g1, g2⟩ := HGW.out
          have hJ2 := i2.trans HJ.out
          simp only [Prod.mk.injEq] at hJ2
          refine ⟨⟨IntKind.u64.wrap (p.n + q.n), rv, .slice a7 n7 c7, rts⟩, rfl, ?_, i1.mono (by omega), ?_, ?_⟩
          · have := HOk7.out.put3 (base := W.heap.size) i1 (g := w.heap.size + 1 + 1 + 1) (by omega) (.int .u64 (IntKind.u64.wrap (p.n + q.n))) (.int .i64 rv) (.slice a7 n7 c7)
            rw [hY]
            exact ⟨this.rt⟩
          · show (_, rv, rts) = _
            rw [hJ2.2.1, hJ2.2.2]
          · rw [hY]
            exact below_put3 ((g1.trans (i3.mono (by omega))).setCell (p := ⟨B7, 0, none⟩) (by show w.heap.size ≤ B7; omega) _) (by omega) _ _ _
      · go_wp2_with fail
        rw [← HW.out]
        go_cut [7] (fun t wA => ∃ (B7 : Nat) (r : Pt), t = .pointer (some ⟨B7, 0, none⟩) ∧ Hid (Box3 wA B7 (.int .u64 r.n) (.int .i64 r.v) r.tv ∧ (∀ u, r.Ok (wA.setCell ⟨B7, 0, none⟩ u)) ∧ New W.heap.size r.tv ∧ r.p0 = J ∧ Below W.heap.size W wA ∧ W.heap.size ≤ B7))
        case first =>
          go_region_held (fun w' => Below W.heap.size W w' ∧ w'.cell? ⟨w.heap.size, 0, none⟩ = some (.int .i64 k) ∧ w'.cell? ⟨w.heap.size, 1, none⟩ = some (.int .i64 c) ∧ w'.cell? ⟨w.heap.size + 1, 0, none⟩ = some (.int .u64 p.n) ∧ w'.cell? ⟨w.heap.size + 1, 1, none⟩ = some (.int .i64 p.v) ∧ w'.cell? ⟨w.heap.size + 1, 2, none⟩ = some (.slice a1 n1 c1) ∧ w'.cell? ⟨w.heap.size + 1 + 1, 0, none⟩ = some (.int .u64 q.n) ∧ w'.cell? ⟨w.heap.size + 1 + 1, 1, none⟩ = some (.int .i64 q.v) ∧ w'.cell? ⟨w.heap.size + 1 + 1, 2, none⟩ = some (.slice a2 n2 c2))
            (exact keepS _ (by repeat' (first | with_reducible assumption | with_reducible exact Below.refl _ _ | with_reducible refine Below.drew ?_ | with_reducible refine bel_alloc ?_ _ | with_reducible refine bel_put3 ?_ ?_ _ _ | with_reducible refine Nat.le_refl _ | omega)))
            (first
              | (go_at_call 25; (with_reducible refine (kW _).mono ?_); rintro e3 w3 ⟨rfl, g3⟩; have B3 : Below W.heap.size W w3 := bel_trans (by repeat' (first | with_reducible assumption | with_reducible exact Below.refl _ _ | with_reducible refine Below.drew ?_ | with_reducible refine bel_alloc ?_ _ | with_reducible refine bel_put3 ?_ ?_ _ _ | with_reducible refine Nat.le_refl _ | omega)) g3.below; have hs3 := B3.size; (first | (have Z1 : Box3 w3 W.heap.size (.int .u64 0) (.int .i64 0) (.slice none 0 0) := Box3.up ((Box3.new W _ _ _ 30 _ rfl).up (Below.drew (Below.refl _ _))) g3.below; have HZ1 : Hid (Box3 w3 W.heap.size (.int .u64 0) (.int .i64 0) (.slice none 0 0)) := Z1; obtain ⟨x0, x1, x2, xf⟩ := Z1) | (have Z1 : Box3 w3 W.heap.size (.int .u64 0) (.int .i64 0) (.slice none 0 0) := Box3.up (Box3.new W.drew _ _ _ 30 _ rfl) g3.below; have HZ1 : Hid (Box3 w3 W.heap.size (.int .u64 0) (.int .i64 0) (.slice none 0 0)) := Z1; obtain ⟨x0, x1, x2, xf⟩ := Z1) | skip))
              | (go_at_call 48; (with_reducible refine (kJ _ (by repeat' (first | with_reducible assumption | with_reducible exact Below.refl _ _ | with_reducible refine Below.drew ?_ | with_reducible refine bel_alloc ?_ _ | with_reducible refine bel_put3 ?_ ?_ _ _ | with_reducible refine Nat.le_refl _ | omega))).mono ?_); rintro e4 w4 ⟨r, rfl, ok4, new4, hr4, b4⟩; have B4 : Below W.heap.size W w4 := bel_trans (by repeat' (first | with_reducible assumption | with_reducible exact Below.refl _ _ | with_reducible refine Below.drew ?_ | with_reducible refine bel_alloc ?_ _ | with_reducible refine bel_put3 ?_ ?_ _ _ | with_reducible refine Nat.le_refl _ | omega)) b4; have hs4 := b4.size; (first | (have Y1 : Box3 w4 W.heap.size (.int .u64 0) (.int .i64 0) (.slice none 0 0) := HZ1.out.up b4; have hN4 : Hid (New w3.heap.size r.tv ∧ W.heap.size < w3.heap.size) := ⟨new4, HZ1.out.lt⟩; have HY1 : Hid (Box3 w4 W.heap.size (.int .u64 0) (.int .i64 0) (.slice none 0 0)) := Y1; obtain ⟨y0, y1, y2, yf⟩ := Y1) | (have Y1 : Box3 w4 w3.heap.size (.int .u64 0) (.int .i64 0) (.slice none 0 0) := Box3.up (Box3.new w3 _ _ _ 30 _ rfl) b4; have hN4 : Hid (New (w3.heap.size + 1) r.tv) := (by have := new4; simp at this; exact this); have HY1 : Hid (Box3 w4 w3.heap.size (.int .u64 0) (.int .i64 0) (.slice none 0 0)) := Y1; obtain ⟨y0, y1, y2, yf⟩ := Y1) | skip); have HK4 : Hid (r.Ok w4 ∧ r.p0 = J) := ⟨ok4, hr4⟩; have HNW : Hid (New W.heap.size r.tv) := (New.mono new4 (by first | exact hs3 | (simp; omega) | omega)); obtain ⟨a4, n4, c4, hv4⟩ := ok4.rt.sl; obtain ⟨rn, rv, rtv, rts⟩ := r; simp only at hv4; subst hv4; clear ok4 new4 hr4))
          all_goals
            go_wp2_with fail
            go_meet
            case rel =>
              first
                | with_reducible exact jn_alloc (r := ⟨rn, rv, .slice a4 n4 c4, rts⟩) HK4.out HNW.out B4
                | with_reducible exact jn_put (r := ⟨rn, rv, .slice a4 n4 c4, rts⟩) HY1.out HK4.out HNW.out hN4.out.1 hN4.out.2 (Nat.le_refl _) B4
                | with_reducible exact jn_put (r := ⟨rn, rv, .slice a4 n4 c4, rts⟩) HY1.out HK4.out HNW.out hN4.out (Nat.lt_succ_self _) hs3 B4
        case rest =>
          rename World => wA
          obtain ⟨B7, r, rfl, HR⟩ := hcut
          obtain ⟨bx7, ok7, new7, hr7, b7, hle7⟩ := HR.out
          obtain ⟨a7, n7, c7, hv7⟩ := (ok7 (.int .u64 0)).rt.sl
          obtain ⟨rn, rv, rtv, rts⟩ := r
          simp only at hv7
          subst hv7
          simp only at bx7
          obtain ⟨g1, g2⟩ := HGW.out
          have bx6 := HBx.out.up b7
          obtain ⟨-, -, -, pn0, -, -, qn0, -, -⟩ := keepS wA b7
          obtain ⟨s0, s1, s2, sf⟩ := bx7
          obtain ⟨t0, t1, t2, tf⟩ := bx6
          have hN : ∀ N : Int, Box3 (wA.setCell ⟨B7, 0, none⟩ (.int .u64 N)) (w.heap.size + 1 + 1 + 1) (.int .u64 0) (.int .i64 0) (.slice none 0 0) ∧ Box3 (wA.setCell ⟨B7, 0, none⟩ (.int .u64 N)) B7 (.int .u64 N) (.int .i64 rv) (.slice a7 n7 c7) := fun N => by
            refine ⟨⟨?_, ?_, ?_, fun c => by simpa using tf c⟩, ⟨?_, ?_, ?_, fun c => by simpa using sf c⟩⟩
            · rw [World.cell?_setCell_other _ _ _ _ (by simp <;> omega)]; exact t0
            · rw [World.cell?_setCell_other _ _ _ _ (by simp)]; exact t1
            · rw [World.cell?_setCell_other _ _ _ _ (by simp)]; exact t2
            · exact World.cell?_setCell_same _ _ _ s0
            · rw [World.cell?_setCell_other _ _ _ _ (by simp)]; exact s1
            · rw [World.cell?_setCell_other _ _ _ _ (by simp)]; exact s2
          obtain ⟨hN1, hN2⟩ := hN (IntKind.u64.wrap (p.n + q.n))
          have HP6 : Hid _ := hN1.put (.int .u64 (IntKind.u64.wrap (p.n + q.n))) (.int .i64 rv) (.slice a7 n7 c7)
          have HOk7 : Hid _ := ok7 (.int .u64 (IntKind.u64.wrap (p.n + q.n)))
          have HI7 : Hid (New W.heap.size (.slice a7 n7 c7) ∧ (rn, rv, rts) = J ∧ Below W.heap.size W wA ∧ W.heap.size ≤ B7) := ⟨new7, hr7, b7, hle7⟩
          obtain ⟨u0, u1, u2, -⟩ := hN2
          obtain ⟨v0, v1, v2, vf⟩ := hN1
          have vf0 := vf 0
          have vf1 := vf 1
          have vf2 := vf 2
          have sf0 := sf 0
          clear hN hr7 ok7 new7 b7 hle7 g1 g2 keepS kW kJ HR s1 s2 t0 t1 t2 tf sf
          go_wp2_with fail
          obtain ⟨Y, hY⟩ : ∃ Y, Y = put3 (wA.setCell ⟨B7, 0, none⟩ (.int .u64 (IntKind.u64.wrap (p.n + q.n)))) (w.heap.size + 1 + 1 + 1) (.int .u64 (IntKind.u64.wrap (p.n + q.n))) (.int .i64 rv) (.slice a7 n7 c7) := ⟨_, rfl⟩
          have hb := HP6.out
          rw [← hY] at hb
          rw [show (((wA.setCell ⟨B7, 0, none⟩ (.int .u64 (IntKind.u64.wrap (p.n + q.n)))).setCell ⟨w.heap.size + 1 + 1 + 1, 0, none⟩ (.int .u64 (IntKind.u64.wrap (p.n + q.n)))).setCell ⟨w.heap.size + 1 + 1 + 1, 1, none⟩ (.int .i64 rv)).setCell ⟨w.heap.size + 1 + 1 + 1, 2, none⟩ (.slice a7 n7 c7) = Y from hY.symm]
          obtain ⟨z0, z1, z2, -⟩ := hb
          refine bodyPost_ret (by simp [results, Try.results21, go_sem, z0, z1, z2]; try rfl) rfl ?_
          obtain ⟨i1, i2, i3, i4⟩ := HI7.out
          obtain ⟨g1, g2⟩ := HGW.out
          have hJ2 := i2.trans HJ.out
          simp only [Prod.mk.injEq] at hJ2
          refine ⟨⟨IntKind.u64.wrap (p.n + q.n), rv, .slice a7 n7 c7, rts⟩, rfl, ?_, i1.mono (by omega), ?_, ?_⟩
          · have := HOk7.out.put3 (base := W.heap.size) i1 (g := w.heap.size + 1 + 1 + 1) (by omega) (.int .u64 (IntKind.u64.wrap (p.n + q.n))) (.int .i64 rv) (.slice a7 n7 c7)
            rw [hY]
            exact ⟨this.rt⟩
          · show (_, rv, rts) = _
            rw [hJ2.2.1, hJ2.2.2]
          · rw [hY]
            exact below_put3 ((g1.trans (i3.mono (by omega))).setCell (p := ⟨B7, 0, none⟩) (by show w.heap.size ≤ B7; omega) _) (by omega) _ _ _
      · go_wp2_with fail
        rw [← HW.out]
        go_cut [7] (fun t wA => ∃ (B7 : Nat) (r : Pt), t = .pointer (some ⟨B7, 0, none⟩) ∧ Hid (Box3 wA B7 (.int .u64 r.n) (.int .i64 r.v) r.tv ∧ (∀ u, r.Ok (wA.setCell ⟨B7, 0, none⟩ u)) ∧ New W.heap.size r.tv ∧ r.p0 = J ∧ Below W.heap.size W wA ∧ W.heap.size ≤ B7))
        case first =>
          go_region_held (fun w' => Below W.heap.size W w' ∧ w'.cell? ⟨w.heap.size, 0, none⟩ = some (.int .i64 k) ∧ w'.cell? ⟨w.heap.size, 1, none⟩ = some (.int .i64 c) ∧ w'.cell? ⟨w.heap.size + 1, 0, none⟩ = some (.int .u64 p.n) ∧ w'.cell? ⟨w.heap.size + 1, 1, none⟩ = some (.int .i64 p.v) ∧ w'.cell? ⟨w.heap.size + 1, 2, none⟩ = some (.slice a1 n1 c1) ∧ w'.cell? ⟨w.heap.size + 1 + 1, 0, none⟩ = some (.int .u64 q.n) ∧ w'.cell? ⟨w.heap.size + 1 + 1, 1, none⟩ = some (.int .i64 q.v) ∧ w'.cell? ⟨w.heap.size + 1 + 1, 2, none⟩ = some (.slice a2 n2 c2))
            (exact keepS _ (by repeat' (first | with_reducible assumption | with_reducible exact Below.refl _ _ | with_reducible refine Below.drew ?_ | with_reducible refine bel_alloc ?_ _ | with_reducible refine bel_put3 ?_ ?_ _ _ | with_reducible refine Nat.le_refl _ | omega)))
            (first
              | (go_at_call 25; (with_reducible refine (kW _).mono ?_); rintro e3 w3 ⟨rfl, g3⟩; have B3 : Below W.heap.size W w3 := bel_trans (by repeat' (first | with_reducible assumption | with_reducible exact Below.refl _ _ | with_reducible refine Below.drew ?_ | with_reducible refine bel_alloc ?_ _ | with_reducible refine bel_put3 ?_ ?_ _ _ | with_reducible refine Nat.le_refl _ | omega)) g3.below; have hs3 := B3.size; (first | (have Z1 : Box3 w3 W.heap.size (.int .u64 0) (.int .i64 0) (.slice none 0 0) := Box3.up ((Box3.new W _ _ _ 30 _ rfl).up (Below.drew (Below.refl _ _))) g3.below; have HZ1 : Hid (Box3 w3 W.heap.size (.int .u64 0) (.int .i64 0) (.slice none 0 0)) := Z1; obtain ⟨x0, x1, x2, xf⟩ := Z1) | (have Z1 : Box3 w3 W.heap.size (.int .u64 0) (.int .i64 0) (.slice none 0 0) := Box3.up (Box3.new W.drew _ _ _ 30 _ rfl) g3.below; have HZ1 : Hid (Box3 w3 W.heap.size (.int .u64 0) (.int .i64 0) (.slice none 0 0)) := Z1; obtain ⟨x0, x1, x2, xf⟩ := Z1) | skip))
              | (go_at_call 51; (with_reducible refine (kJ _ (by repeat' (first | with_reducible assumption | with_reducible exact Below.refl _ _ | with_reducible refine Below.drew ?_ | with_reducible refine bel_alloc ?_ _ | with_reducible refine bel_put3 ?_ ?_ _ _ | with_reducible refine Nat.le_refl _ | omega))).mono ?_); rintro e4 w4 ⟨r, rfl, ok4, new4, hr4, b4⟩; have B4 : Below W.heap.size W w4 := bel_trans (by repeat' (first | with_reducible assumption | with_reducible exact Below.refl _ _ | with_reducible refine Below.drew ?_ | with_reducible refine bel_alloc ?_ _ | with_reducible refine bel_put3 ?_ ?_ _ _ | with_reducible refine Nat.le_refl _ | omega)) b4; have hs4 := b4.size; (first | (have Y1 : Box3 w4 W.heap.size (.int .u64 0) (.int .i64 0) (.slice none 0 0) := HZ1.out.up b4; have hN4 : Hid (New w3.heap.size r.tv ∧ W.heap.size < w3.heap.size) := ⟨new4, HZ1.out.lt⟩; have HY1 : Hid (Box3 w4 W.heap.size (.int .u64 0) (.int .i64 0) (.slice none 0 0)) := Y1; obtain ⟨y0, y1, y2, yf⟩ := Y1) | (have Y1 : Box3 w4 w3.heap.size (.int .u64 0) (.int .i64 0) (.slice none 0 0) := Box3.up (Box3.new w3 _ _ _ 30 _ rfl) b4; have hN4 : Hid (New (w3.heap.size + 1) r.tv) := (by have := new4; simp at this; exact this); have HY1 : Hid (Box3 w4 w3.heap.size (.int .u64 0) (.int .i64 0) (.slice none 0 0)) := Y1; obtain ⟨y0, y1, y2, yf⟩ := Y1) | skip); have HK4 : Hid (r.Ok w4 ∧ r.p0 = J) := ⟨ok4, hr4⟩; have HNW : Hid (New W.heap.size r.tv) := (New.mono new4 (by first | exact hs3 | (simp; omega) | omega)); obtain ⟨a4, n4, c4, hv4⟩ := ok4.rt.sl; obtain ⟨rn, rv, rtv, rts⟩ := r; simp only at hv4; subst hv4; clear ok4 new4 hr4))
          all_goals
            go_wp2_with fail
            go_meet
            case rel =>
              first
                | with_reducible exact jn_alloc (r := ⟨rn, rv, .slice a4 n4 c4, rts⟩) HK4.out HNW.out B4
                | with_reducible exact jn_put (r := ⟨rn, rv, .slice a4 n4 c4, rts⟩) HY1.out HK4.out HNW.out hN4.out.1 hN4.out.2 (Nat.le_refl _) B4
                | with_reducible exact jn_put (r := ⟨rn, rv, .slice a4 n4 c4, rts⟩) HY1.out HK4.out HNW.out hN4.out (Nat.lt_succ_self _) hs3 B4
        case rest =>
          rename World => wA
          obtain ⟨B7, r, rfl, HR⟩ := hcut
          obtain ⟨bx7, ok7, new7, hr7, b7, hle7⟩ := HR.out
          obtain ⟨a7, n7, c7, hv7⟩ := (ok7 (.int .u64 0)).rt.sl
          obtain ⟨rn, rv, rtv, rts⟩ := r
          simp only at hv7
          subst hv7
          simp only at bx7
          obtain ⟨g1, g2⟩ := HGW.out
          have bx6 := HBx.out.up b7
          obtain ⟨-, -, -, pn0, -, -, qn0, -, -⟩ := keepS wA b7
          obtain ⟨s0, s1, s2, sf⟩ := bx7
          obtain ⟨t0, t1, t2, tf⟩ := bx6
          have hN : ∀ N : Int, Box3 (wA.setCell ⟨B7, 0, none⟩ (.int .u64 N)) (w.heap.size + 1 + 1 + 1) (.int .u64 0) (.int .i64 0) (.slice none 0 0) ∧ Box3 (wA.setCell ⟨B7, 0, none⟩ (.int .u64 N)) B7 (.int .u64 N) (.int .i64 rv) (.slice a7 n7 c7) := fun N => by
            refine ⟨⟨?_, ?_, ?_, fun c => by simpa using tf c⟩, ⟨?_, ?_, ?_, fun c => by simpa using sf c⟩⟩
            · rw [World.cell?_setCell_other _ _ _ _ (by simp <;> omega)]; exact t0
            · rw [World.cell?_setCell_other _ _ _ _ (by simp)]; exact t1
            · rw [World.cell?_setCell_other _ _ _ _ (by simp)]; exact t2
            · exact World.cell?_setCell_same _ _ _ s0
            · rw [World.cell?_setCell_other _ _ _ _ (by simp)]; exact s1
            · rw [World.cell?_setCell_other _ _ _ _ (by simp)]; exact s2
          obtain ⟨hN1, hN2⟩ := hN (IntKind.u64.wrap (p.n + q.n))
          have HP6 : Hid _ := hN1.put (.int .u64 (IntKind.u64.wrap (p.n + q.n))) (.int .i64 rv) (.slice a7 n7 c7)
          have HOk7 : Hid _ := ok7 (.int .u64 (IntKind.u64.wrap (p.n + q.n)))
          have HI7 : Hid (New W.heap.size (.slice a7 n7 c7) ∧ (rn, rv, rts) = J ∧ Below W.heap.size W wA ∧ W.heap.size ≤ B7) := ⟨new7, hr7, b7, hle7⟩
          obtain ⟨u0, u1, u2, -⟩ := hN2
          obtain ⟨v0, v1, v2, vf⟩ := hN1
          have vf0 := vf 0
          have vf1 := vf 1
          have vf2 := vf 2
          have sf0 := sf 0
          clear hN hr7 ok7 new7 b7 hle7 g1 g2 keepS kW kJ HR s1 s2 t0 t1 t2 tf sf
          go_wp2_with fail
          obtain ⟨Y, hY⟩ : ∃ Y, Y = put3 (wA.setCell ⟨B7, 0, none⟩ (.int .u64 (IntKind.u64.wrap (p.n + q.n)))) (w.heap.size + 1 + 1 + 1) (.int .u64 (IntKind.u64.wrap (p.n + q.n))) (.int .i64 rv) (.slice a7 n7 c7) := ⟨_, rfl⟩
          have hb := HP6.out
          rw [← hY] at hb
          rw [show (((wA.setCell ⟨B7, 0, none⟩ (.int .u64 (IntKind.u64.wrap (p.n + q.n)))).setCell ⟨w.heap.size + 1 + 1 + 1, 0, none⟩ (.int .u64 (IntKind.u64.wrap (p.n + q.n)))).setCell ⟨w.heap.size + 1 + 1 + 1, 1, none⟩ (.int .i64 rv)).setCell ⟨w.heap.size + 1 + 1 + 1, 2, none⟩ (.slice a7 n7 c7) = Y from hY.symm]
          obtain ⟨z0, z1, z2, -⟩ := hb
          refine bodyPost_ret (by simp [results, Try.results21, go_sem, z0, z1, z2]; try rfl) rfl ?_
          obtain ⟨i1, i2, i3, i4⟩ := HI7.out
          obtain ⟨g1, g2⟩ := HGW.out
          have hJ2 := i2.trans HJ.out
          simp only [Prod.mk.injEq] at hJ2
          refine ⟨⟨IntKind.u64.wrap (p.n + q.n), rv, .slice a7 n7 c7, rts⟩, rfl, ?_, i1.mono (by omega), ?_, ?_⟩
          · have := HOk7.out.put3 (base := W.heap.size) i1 (g := w.heap.size + 1 + 1 + 1) (by omega) (.int .u64 (IntKind.u64.wrap (p.n + q.n))) (.int .i64 rv) (.slice a7 n7 c7)
            rw [hY]
            exact ⟨this.rt⟩
          · show (_, rv, rts) = _
            rw [hJ2.2.1, hJ2.2.2]
          · rw [hY]
            exact below_put3 ((g1.trans (i3.mono (by omega))).setCell (p := ⟨B7, 0, none⟩) (by show w.heap.size ≤ B7; omega) _) (by omega) _ _ _
end Go.Proofs.Ytkoihniggoelnaa
