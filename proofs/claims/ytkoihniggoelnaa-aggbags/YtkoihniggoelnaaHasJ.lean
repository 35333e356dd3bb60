/- Contracts of the ways' has and join, and of copied. -/
import Derived.Test.YtkoihniggoelnaaUni
import Derived.Deep.RegionHeld
namespace Go.Proofs.Ytkoihniggoelnaa
open Go.RowKit Go.Sort

/-- What an aggregator has, as a value. -/
abbrev P0 := Int × Int × List Str
def Pt.p0 (p : Pt) : P0 := (p.n, p.v, p.ts)
/-- A slice's memory lies from this block on. -/
def New (base : Nat) (v : Value) : Prop := ∀ a n c, v = .slice (some a) n c → base ≤ a.block
theorem New.nil (base : Nat) : New base (.slice none 0 0) := fun _ _ _ h => by cases h
theorem New.of {w : World} {base e k n : Nat} {v : Value} {xs : List Value} (h : w.ownsRow base e k v n xs) : New base v := fun a n c hv => by
  rcases h.2 with ⟨rfl, _⟩ | ⟨g, cap, cur, rfl, hb, _⟩
  · cases hv
  · simp only [Value.slice.injEq, Option.some.injEq] at hv
    obtain ⟨rfl, _, _⟩ := hv
    exact hb
theorem New.mono {b b' : Nat} {v : Value} (h : New b v) (hb : b' ≤ b) : New b' v := fun a n c e => Nat.le_trans hb (h a n c e)
theorem Rds.off {w : World} {v : Value} {xs : List Value} {base : Nat} (h : Rds w v xs) (hn : New base v) {g o : Nat} (hg : g < base) (u : Value) : Rds (w.setCell ⟨g, o, none⟩ u) v xs := by
  obtain ⟨ao, cap, rfl, h1, h2, h3, h4⟩ := h
  refine ⟨ao, cap, rfl, h1, h2, h3, fun ad ha j x hj => ?_⟩
  have hc := h4 ad ha j x hj
  subst ha
  have hk := hn ad _ _ rfl
  have hab : (ad.add j).block = ad.block := by cases ad; simp [Addr.add]; try (split <;> rfl)
  rw [World.cell?_setCell_other _ _ _ _ (fun e => by rw [← e] at hab; simp at hab; omega)]
  exact hc
/-- It is answered so. -/
def Gives (x : P0) (w : World) (e : Ending) (w' : World) : Prop := ∃ p : Pt, e = .returned (.agg #[.int .u64 p.n, .int .i64 p.v, p.tv]) ∧ p.Ok w' ∧ New w.heap.size p.tv ∧ p.p0 = x ∧ Below w.heap.size w w'
theorem Gives.of {x : P0} {w w' : World} {e : Ending} (n v : Int) (h : e = .returned (.agg #[.int .u64 n, .int .i64 v, .slice none 0 0])) (hx : x = (n, v, [])) (g : Grows w w') : Gives x w e w' :=
  ⟨⟨n, v, .slice none 0 0, []⟩, h, ⟨Rds.nil _⟩, New.nil _, hx.symm, g.below⟩

theorem al_frz (w : World) (cs : Array Value) (t : TypeId) {B c : Nat} (hB : B = w.heap.size) : (w.alloc (.cells cs t)).frozen? ⟨B, c, none⟩ = false := by subst hB; simp
abbrev put3 (w : World) (g : Nat) (x y z : Value) : World := ((w.setCell ⟨g, 0, none⟩ x).setCell ⟨g, 1, none⟩ y).setCell ⟨g, 2, none⟩ z
/-- A box of three cells. -/
structure Box3 (w : World) (p : Nat) (x y z : Value) : Prop where
  c0 : w.cell? ⟨p, 0, none⟩ = some x
  c1 : w.cell? ⟨p, 1, none⟩ = some y
  c2 : w.cell? ⟨p, 2, none⟩ = some z
  fr : ∀ c, w.frozen? ⟨p, c, none⟩ = false
theorem Box3.lt {w : World} {p : Nat} {x y z : Value} (h : Box3 w p x y z) : p < w.heap.size := World.block_lt_of_cell? _ _ h.c0
theorem Box3.up {w w' : World} {p : Nat} {x y z : Value} (h : Box3 w p x y z) (b : Below w.heap.size w w') : Box3 w' p x y z :=
  ⟨by rw [b.cell h.lt]; exact h.c0, by rw [b.cell h.lt]; exact h.c1, by rw [b.cell h.lt]; exact h.c2, fun c => by rw [b.frozen h.lt]; exact h.fr c⟩
theorem Box3.upB {w w' : World} {p B : Nat} {x y z : Value} (h : Box3 w p x y z) (b : Below B w w') (hp : p < B) : Box3 w' p x y z :=
  ⟨by rw [b.cell hp]; exact h.c0, by rw [b.cell hp]; exact h.c1, by rw [b.cell hp]; exact h.c2, fun c => by rw [b.frozen hp]; exact h.fr c⟩
theorem Box3.new (w : World) (x y z : Value) (t : TypeId) (B : Nat) (hB : B = w.heap.size) : Box3 (w.alloc (.cells #[x, y, z] t)) B x y z :=
  ⟨al_new _ _ _ hB rfl, al_new _ _ _ hB rfl, al_new _ _ _ hB rfl, fun _ => al_frz _ _ _ hB⟩
theorem Box3.put {w : World} {p : Nat} {x y z : Value} (h : Box3 w p x y z) (a b c : Value) : Box3 (put3 w p a b c) p a b c := by
  refine ⟨?_, ?_, ?_, fun c => by simpa using h.fr c⟩
  · rw [World.cell?_setCell_other _ _ _ _ (by simp), World.cell?_setCell_other _ _ _ _ (by simp)]; exact World.cell?_setCell_same _ _ _ h.c0
  · rw [World.cell?_setCell_other _ _ _ _ (by simp)]; exact World.cell?_setCell_same _ _ _ (by rw [World.cell?_setCell_other _ _ _ _ (by simp)]; exact h.c1)
  · exact World.cell?_setCell_same _ _ _ (by rw [World.cell?_setCell_other _ _ _ _ (by simp), World.cell?_setCell_other _ _ _ _ (by simp)]; exact h.c2)
theorem below_put3 {B : Nat} {a w : World} (h : Below B a w) {g : Nat} (hg : B ≤ g) (x y z : Value) : Below B a (put3 w g x y z) := ((h.setCell (p := ⟨g, 0, none⟩) hg _).setCell (p := ⟨g, 1, none⟩) hg _).setCell (p := ⟨g, 2, none⟩) hg _
theorem own_put3 {w : World} {base e k n : Nat} {v : Value} {xs : List Value} (h : w.ownsRow base e k v n xs) {g : Nat} (hg : g < base) (x y z : Value) : (put3 w g x y z).ownsRow base e k v n xs :=
  ownsRow_setCell_below (ownsRow_setCell_below (ownsRow_setCell_below h (a := ⟨g, 0, none⟩) hg _) (a := ⟨g, 1, none⟩) hg _) (a := ⟨g, 2, none⟩) hg _
theorem rds_of_own {w : World} {base : Nat} {v : Value} {l : List Str} (h : w.ownsRow base 9 1 v l.length (sv l)) : Rds w v (sv l) := by
  have := RdsK.of_own h
  obtain ⟨ao, cap, rfl, h0, h1, h2, h3, h4⟩ := this
  exact ⟨ao, cap, by rw [sv_length], by rw [sv_length]; exact h1, h2, (fun e => by rw [sv_length]; exact h3 e), h4⟩

theorem start_any (w : World) (k c : Int) : Calls Try.prog 22 #[.agg #[.int .i64 k, .int .i64 c]] w fun e w' => e = .returned (.agg #[.int .u64 0, .int .i64 0, .slice none 0 0]) ∧ Grows w w' := by
  go_enter Try.func22, Try.ntmps22
  go_wp2_with fail
  go_returns
  exact ⟨rfl, (Grows.alloc _ _).trans (Grows.alloc _ _)⟩
set_option maxHeartbeats 800000 in
theorem countHas_any (w : World) (c n : Int) (f : Fc) (h : f.Ok w) : Calls Try.prog 36 #[.int .i64 c, .agg #[.int .i64 f.t, f.dv, f.mv], .int .u64 n] w (Gives (n, 0, []) w) := by
  obtain ⟨ad, nd, cd, am, nm, cm, e1, e2, -⟩ := h.lens
  rw [e1, e2]
  clear h e1 e2
  go_enter Try.func36, Try.ntmps36
  go_wp2_with fail
  go_returns
  exact Gives.of n 0 rfl rfl ((Grows.alloc _ _).trans (Grows.alloc _ _))
/-- A measure, so many times. -/
def sumV (x n : Int) : Int := wrap64 (IntKind.u64.wrap (IntKind.u64.wrap x * n))
set_option maxHeartbeats 800000 in
theorem sumHas_any (w : World) (c n : Int) (f : Fc) (h : f.Ok w) : Calls Try.prog 43 #[.int .i64 c, .agg #[.int .i64 f.t, f.dv, f.mv], .int .u64 n] w (Gives (n, sumV (atI f.ms c) n, []) w) := by
  obtain ⟨W, hW⟩ : ∃ W, W = (w.alloc (.cells #[.int .i64 f.t, f.dv, f.mv] 47)).alloc (.cells #[.int .u64 0, .int .i64 0, .slice none 0 0] 30) := ⟨_, rfl⟩
  have gW : Grows w W := by rw [hW]; exact (Grows.alloc _ _).trans (Grows.alloc _ _)
  have kA := atI_any W f.mv f.ms c (h.up gW.below).rm
  obtain ⟨ad, nd, cd, am, nm, cm, e1, e2, -⟩ := h.lens
  rw [e1, e2] at hW
  rw [e2, hW] at kA
  rw [e1, e2]
  clear h e1 e2 hW gW
  unfold sumV
  generalize atI f.ms c = x at *
  go_enter Try.func43, Try.ntmps43
  go_wp2_with (go_at_call 54; refine kA.mono ?_; rintro e w' ⟨rfl, rfl⟩)
  go_returns
  exact Gives.of n _ rfl rfl ((Grows.alloc _ _).trans (Grows.alloc _ _))
set_option maxHeartbeats 800000 in
theorem measureHas_any (w : World) (c n : Int) (f : Fc) (h : f.Ok w) : Calls Try.prog 46 #[.int .i64 c, .agg #[.int .i64 f.t, f.dv, f.mv], .int .u64 n] w (Gives (n, atI f.ms c, []) w) := by
  obtain ⟨W, hW⟩ : ∃ W, W = (w.alloc (.cells #[.int .i64 f.t, f.dv, f.mv] 47)).alloc (.cells #[.int .u64 0, .int .i64 0, .slice none 0 0] 30) := ⟨_, rfl⟩
  have gW : Grows w W := by rw [hW]; exact (Grows.alloc _ _).trans (Grows.alloc _ _)
  have kA := atI_any W f.mv f.ms c (h.up gW.below).rm
  obtain ⟨ad, nd, cd, am, nm, cm, e1, e2, -⟩ := h.lens
  rw [e1, e2] at hW
  rw [e2, hW] at kA
  rw [e1, e2]
  clear h e1 e2 hW gW
  generalize atI f.ms c = x at *
  go_enter Try.func46, Try.ntmps46
  go_wp2_with (go_at_call 54; refine kA.mono ?_; rintro e w' ⟨rfl, rfl⟩)
  go_returns
  exact Gives.of n x rfl rfl ((Grows.alloc _ _).trans (Grows.alloc _ _))
set_option maxHeartbeats 800000 in
theorem textHas_any (w : World) (c n : Int) (f : Fc) (h : f.Ok w) : Calls Try.prog 50 #[.int .i64 c, .agg #[.int .i64 f.t, f.dv, f.mv], .int .u64 n] w (Gives (n, 0, [atS f.ds c]) w) := by
  obtain ⟨W, hW⟩ : ∃ W, W = (w.alloc (.cells #[.int .i64 f.t, f.dv, f.mv] 47)).alloc (.cells #[.int .u64 0, .int .i64 0, .slice none 0 0] 30) := ⟨_, rfl⟩
  have gW : Grows w W := by rw [hW]; exact (Grows.alloc _ _).trans (Grows.alloc _ _)
  have kA := atS_any W f.dv f.ds c (h.up gW.below).rd
  obtain ⟨ad, nd, cd, am, nm, cm, e1, e2, -⟩ := h.lens
  rw [e1, e2] at hW
  rw [e1, hW] at kA
  rw [e1, e2]
  clear h e1 e2 hW gW
  generalize atS f.ds c = x at *
  go_enter Try.func50, Try.ntmps50
  go_wp2_with (go_at_call 55; refine kA.mono ?_; rintro e w' ⟨rfl, rfl⟩)
  go_returns
  refine ⟨⟨n, 0, .slice (some ⟨w.heap.size + 1 + 1, 0, none⟩) 1 1, [x]⟩, rfl, ⟨?_⟩, (fun a n c e => by simp only [Value.slice.injEq, Option.some.injEq] at e; rw [← e.1]; show w.heap.size ≤ w.heap.size + 1 + 1; omega), rfl, (((Grows.alloc _ _).trans (Grows.alloc _ _)).trans (Grows.alloc _ _)).below⟩
  refine ⟨some ⟨w.heap.size + 1 + 1, 0, none⟩, 1, rfl, Nat.le_refl _, by decide, (fun h => by cases h), ?_⟩
  rintro ad ⟨rfl⟩ j u hj
  have hj0 : j = 0 := by have := (List.getElem?_eq_some_iff.1 hj).1; simp [sv] at this; omega
  subst hj0
  have hu : u = .string ⟨x.toArray⟩ := by simpa [sv] using hj.symm
  subst hu
  rw [Addr.add_lit]
  exact al_new _ _ _ (by simp) rfl

set_option maxHeartbeats 800000 in
theorem countJoin_any (w : World) (p q : Pt) (hp : p.Ok w) (hq : q.Ok w) : Calls Try.prog 37 #[.agg #[.int .u64 p.n, .int .i64 p.v, p.tv], .agg #[.int .u64 q.n, .int .i64 q.v, q.tv]] w (Gives (0, 0, []) w) := by
  obtain ⟨a1, n1, c1, e1⟩ := hp.rt.sl
  obtain ⟨a2, n2, c2, e2⟩ := hq.rt.sl
  rw [e1, e2]
  clear hp hq e1 e2
  go_enter Try.func37, Try.ntmps37
  go_wp2_with fail
  go_returns
  exact Gives.of 0 0 rfl rfl (((Grows.alloc _ _).trans (Grows.alloc _ _)).trans (Grows.alloc _ _))
set_option maxHeartbeats 800000 in
theorem sumJoin_any (w : World) (p q : Pt) (hp : p.Ok w) (hq : q.Ok w) : Calls Try.prog 44 #[.agg #[.int .u64 p.n, .int .i64 p.v, p.tv], .agg #[.int .u64 q.n, .int .i64 q.v, q.tv]] w (Gives (0, wrap64 (p.v + q.v), []) w) := by
  obtain ⟨a1, n1, c1, e1⟩ := hp.rt.sl
  obtain ⟨a2, n2, c2, e2⟩ := hq.rt.sl
  rw [e1, e2]
  clear hp hq e1 e2
  go_enter Try.func44, Try.ntmps44
  go_wp2_with fail
  go_returns
  exact Gives.of 0 _ rfl rfl (((Grows.alloc _ _).trans (Grows.alloc _ _)).trans (Grows.alloc _ _))
set_option maxHeartbeats 800000 in
theorem minJoin_any (w : World) (p q : Pt) (hp : p.Ok w) (hq : q.Ok w) : Calls Try.prog 47 #[.agg #[.int .u64 p.n, .int .i64 p.v, p.tv], .agg #[.int .u64 q.n, .int .i64 q.v, q.tv]] w (Gives (0, min p.v q.v, []) w) := by
  obtain ⟨a1, n1, c1, e1⟩ := hp.rt.sl
  obtain ⟨a2, n2, c2, e2⟩ := hq.rt.sl
  rw [e1, e2]
  clear hp hq e1 e2
  go_enter Try.func47, Try.ntmps47
  go_wp2_with fail
  go_returns
  exact Gives.of 0 _ rfl rfl (((Grows.alloc _ _).trans (Grows.alloc _ _)).trans (Grows.alloc _ _))
set_option maxHeartbeats 800000 in
theorem maxJoin_any (w : World) (p q : Pt) (hp : p.Ok w) (hq : q.Ok w) : Calls Try.prog 48 #[.agg #[.int .u64 p.n, .int .i64 p.v, p.tv], .agg #[.int .u64 q.n, .int .i64 q.v, q.tv]] w (Gives (0, max p.v q.v, []) w) := by
  obtain ⟨a1, n1, c1, e1⟩ := hp.rt.sl
  obtain ⟨a2, n2, c2, e2⟩ := hq.rt.sl
  rw [e1, e2]
  clear hp hq e1 e2
  go_enter Try.func48, Try.ntmps48
  go_wp2_with fail
  go_returns
  exact Gives.of 0 _ rfl rfl (((Grows.alloc _ _).trans (Grows.alloc _ _)).trans (Grows.alloc _ _))

set_option maxHeartbeats 1600000 in
theorem textsJoin_any (w : World) (p q : Pt) (hp : p.Ok w) (hq : q.Ok w) (h1 : 0 < p.ts.length) (h2 : 0 < q.ts.length) (hb : p.ts.length + q.ts.length ≤ 1000) : Calls Try.prog 51 #[.agg #[.int .u64 p.n, .int .i64 p.v, p.tv], .agg #[.int .u64 q.n, .int .i64 q.v, q.tv]] w (Gives (0, 0, uniL p.ts q.ts) w) := by
  obtain ⟨W, hW⟩ : ∃ W, W = ((w.alloc (.cells #[.int .u64 p.n, .int .i64 p.v, p.tv] 30)).alloc (.cells #[.int .u64 q.n, .int .i64 q.v, q.tv] 30)).alloc (.cells #[.int .u64 0, .int .i64 0, .slice none 0 0] 30) := ⟨_, rfl⟩
  have gW : Grows w W := by rw [hW]; exact ((Grows.alloc _ _).trans (Grows.alloc _ _)).trans (Grows.alloc _ _)
  have kU := union_any W p.tv q.tv p.ts q.ts (hp.up gW.below).rt (hq.up gW.below).rt h1 h2 hb
  have hsz : W.heap.size = w.heap.size + 1 + 1 + 1 := by rw [hW]; simp
  have hbx : W.cell? ⟨w.heap.size + 1 + 1, 0, none⟩ = some (.int .u64 0) ∧ W.cell? ⟨w.heap.size + 1 + 1, 1, none⟩ = some (.int .i64 0) ∧ W.cell? ⟨w.heap.size + 1 + 1, 2, none⟩ = some (.slice none 0 0) ∧ ∀ c, W.frozen? ⟨w.heap.size + 1 + 1, c, none⟩ = false := by
    rw [hW]
    exact ⟨al_new _ _ _ (by simp) rfl, al_new _ _ _ (by simp) rfl, al_new _ _ _ (by simp) rfl, fun c => al_frz _ _ _ (by simp)⟩
  obtain ⟨a1, n1, c1, e1⟩ := hp.rt.sl
  obtain ⟨a2, n2, c2, e2⟩ := hq.rt.sl
  have HW : Hid _ := And.intro hsz (And.intro hbx gW.below)
  rw [e1, e2] at hW
  have HWe : Hid _ := hW
  rw [e1, e2, hW] at kU
  rw [e1, e2]
  clear hp hq e1 e2 hW gW hsz hbx h1 h2 hb
  go_enter Try.func51, Try.ntmps51
  go_wp2_with fail
  refine kU.mono ?_
  rintro e w3 ⟨v3, rfl, o3, b3⟩
  rw [← HWe.out] at b3 o3
  obtain ⟨hsz, ⟨x0, x1, x2, xf⟩, bW⟩ := HW.out
  have hlt : w.heap.size + 1 + 1 < W.heap.size := by omega
  have y0 : w3.cell? ⟨w.heap.size + 1 + 1, 0, none⟩ = some (.int .u64 0) := by rw [b3.cell hlt]; exact x0
  have y1 : w3.cell? ⟨w.heap.size + 1 + 1, 1, none⟩ = some (.int .i64 0) := by rw [b3.cell hlt]; exact x1
  have y2 : w3.cell? ⟨w.heap.size + 1 + 1, 2, none⟩ = some (.slice none 0 0) := by rw [b3.cell hlt]; exact x2
  have yf : ∀ c, w3.frozen? ⟨w.heap.size + 1 + 1, c, none⟩ = false := fun c => by rw [b3.frozen hlt]; exact xf c
  obtain ⟨a3, n3, c3, hv3⟩ := own_sl o3
  subst hv3
  have HO3 : Hid (w3.ownsRow W.heap.size 9 1 (.slice a3 n3 c3) (uniL p.ts q.ts).length (sv (uniL p.ts q.ts))) := o3
  have HB3 : Hid (Below w.heap.size w w3) := bW.trans (b3.mono (by omega))
  have HLt : Hid (w.heap.size + 1 + 1 < W.heap.size) := hlt
  have hB0 : Box3 w3 (w.heap.size + 1 + 1) (.int .u64 0) (.int .i64 0) (.slice none 0 0) := ⟨y0, y1, y2, yf⟩
  have HBx : Hid _ := hB0.put (.int .u64 0) (.int .i64 0) (.slice a3 n3 c3)
  clear kU o3 b3 hsz x0 x1 x2 xf bW hlt hB0
  go_wp2_with fail
  obtain ⟨Y, hY⟩ : ∃ Y, Y = put3 w3 (w.heap.size + 1 + 1) (.int .u64 0) (.int .i64 0) (.slice a3 n3 c3) := ⟨_, rfl⟩
  have hb := HBx.out
  rw [← hY] at hb
  rw [show ((w3.setCell ⟨w.heap.size + 1 + 1, 0, none⟩ (.int .u64 0)).setCell ⟨w.heap.size + 1 + 1, 1, none⟩ (.int .i64 0)).setCell ⟨w.heap.size + 1 + 1, 2, none⟩ (.slice a3 n3 c3) = Y from hY.symm]
  obtain ⟨z0, z1, z2, -⟩ := hb
  have HY : Hid _ := hY
  clear hY y0 y1 y2 yf
  refine bodyPost_ret (by simp [results, Try.results51, go_sem, z0, z1, z2]; try rfl) rfl ?_
  refine ⟨⟨0, 0, .slice a3 n3 c3, uniL p.ts q.ts⟩, rfl, ⟨?_⟩, (New.of HO3.out).mono (by have := HLt.out; omega), rfl, ?_⟩
  · rw [HY.out]
    exact rds_of_own (own_put3 HO3.out HLt.out _ _ _)
  · rw [HY.out]
    exact below_put3 HB3.out (by omega) _ _ _
end Go.Proofs.Ytkoihniggoelnaa
