/- The walk of AggOwn. -/
import Derived.Test.YtkoihniggoelnaaCpo
import Derived.Test.YtkoihniggoelnaaTrn
import Derived.Test.YtkoihniggoelnaaROf
import Derived.OneCell
namespace Go.Proofs.Ytkoihniggoelnaa
open Go.RowKit Go.Sort

theorem own_set_any {w : World} {base e k n : Nat} {v : Value} {xs : List Value} (h : w.ownsRow base e k v n xs) (B o : Nat) (u : Value) : ∃ xs', (w.setCell ⟨B, o, none⟩ u).ownsRow base e k v n xs' := by
  by_cases hb : v.ownBlock = some B
  · rcases h.2 with ⟨rfl, _⟩ | ⟨g, cap, cur, rfl, _⟩
    · simp [Value.ownBlock] at hb
    · simp only [Value.ownBlock, Option.some.injEq] at hb
      subst hb
      exact ⟨_, (h.stored o u).1⟩
  · exact ⟨xs, ownsRow_setCell_other h hb u⟩
theorem own_at {w : World} {lo e k n : Nat} {v : Value} {xs : List Value} (h : w.ownsRow lo e k v n xs) (h0 : 0 < n) : ∃ g cap, v = .slice (some ⟨g, 0, none⟩) n cap ∧ lo ≤ g ∧ n ≤ cap ∧ cap ≤ maxLen := by
  rcases h.2 with ⟨rfl, h1⟩ | ⟨g, cap, cur, rfl, h1, _, h2, h3, _⟩
  · omega
  · exact ⟨g, cap, rfl, h1, h2, h3⟩
theorem own_cell {w : World} {lo e n : Nat} {v : Value} {xs : List Value} (h : w.ownsRow lo e 1 v n xs) {k : Nat} (hk : k < n) : ∃ g cap, v = .slice (some ⟨g, 0, none⟩) n cap ∧ lo ≤ g ∧ (∃ u, w.cell? ⟨g, k, none⟩ = some u) ∧ w.frozen? ⟨g, k, none⟩ = false := by
  obtain ⟨g, cap, rfl, k1, _, _⟩ := own_at h (by omega)
  have hx : xs.length = n * 1 := h.1
  refine ⟨g, cap, rfl, k1, ?_, h.frozenAt k⟩
  rw [h.cellAt _ (by omega)]; exact ⟨_, List.getElem?_eq_getElem (by omega)⟩
theorem own_len {w : World} {lo e n : Nat} {v : Value} {xs : List Value} (h : w.ownsRow lo e 1 v n xs) : ∃ a c, v = .slice a n c ∧ n ≤ maxLen := by
  rcases h.2 with ⟨rfl, rfl⟩ | ⟨g, cap, cur, rfl, h1, _, h2, h3, _⟩
  · exact ⟨_, _, rfl, Nat.zero_le _⟩
  · exact ⟨_, _, rfl, Nat.le_trans h2 h3⟩
theorem own_put3' {w : World} {base e k n : Nat} {v : Value} {xs : List Value} (h : w.ownsRow base e k v n xs) {g : Nat} (hg : v.ownBlock ≠ some g) (x y z : Value) : (put3 w g x y z).ownsRow base e k v n xs :=
  ownsRow_setCell_other (ownsRow_setCell_other (ownsRow_setCell_other h hg x) hg y) hg z
/-- What is answered, of the caller's own from this block on. -/
def OwnP (b : Nat) (X : World) (r : Pt) : Prop := X.ownsRow b 9 1 r.tv r.ts.length (sv r.ts)
theorem OwnP.up {b : Nat} {X Y : World} {r : Pt} (h : OwnP b X r) (hb : Below X.heap.size X Y) : OwnP b Y r := own_below h hb
/-- Two boxes, the rows that they name, and all that was there ahead. -/
structure OSt (V wr : World) (B8 B9 : Nat) (qn qv rn rv : Int) (qt rt : Value) (qm rm : Nat) : Prop where
  bq : Box3 wr B8 (.int .u64 qn) (.int .i64 qv) qt
  br : Box3 wr B9 (.int .u64 rn) (.int .i64 rv) rt
  oq : ∃ xs, wr.ownsRow V.heap.size 9 1 qt qm xs
  or : ∃ xs, wr.ownsRow V.heap.size 9 1 rt rm xs
  q8 : qt.ownBlock ≠ some B8
  q9 : qt.ownBlock ≠ some B9
  r8 : rt.ownBlock ≠ some B8
  r9 : rt.ownBlock ≠ some B9
  bl : Below V.heap.size V wr
theorem OSt.set {V wr : World} {B8 B9 : Nat} {qn qv rn rv : Int} {qt rt : Value} {qm rm : Nat} (h : OSt V wr B8 B9 qn qv rn rv qt rt qm rm) {g : Nat} (hg : V.heap.size ≤ g) (h8 : g ≠ B8) (h9 : g ≠ B9) (o : Nat) (u : Value) :
    OSt V (wr.setCell ⟨g, o, none⟩ u) B8 B9 qn qv rn rv qt rt qm rm := by
  obtain ⟨xs, h1⟩ := h.oq
  obtain ⟨ys, h2⟩ := h.or
  exact ⟨box_far h.bq h8, box_far h.br h9, own_set_any h1 g o u, own_set_any h2 g o u, h.q8, h.q9, h.r8, h.r9, h.bl.setCell (p := ⟨g, o, none⟩) hg u⟩
theorem OSt.drew {V wr : World} {B8 B9 : Nat} {qn qv rn rv : Int} {qt rt : Value} {qm rm : Nat} (h : OSt V wr B8 B9 qn qv rn rv qt rt qm rm) {w' : World} (b : Below wr.heap.size wr w') : OSt V w' B8 B9 qn qv rn rv qt rt qm rm := by
  obtain ⟨xs, h1⟩ := h.oq
  obtain ⟨ys, h2⟩ := h.or
  exact ⟨h.bq.up b, h.br.up b, ⟨xs, own_below h1 b⟩, ⟨ys, own_below h2 b⟩, h.q8, h.q9, h.r8, h.r9, h.bl.trans (b.mono h.bl.size)⟩

set_option maxRecDepth 100000 in
set_option maxHeartbeats 8000000 in
theorem own_walk (w : World) (v : Value) (raw : List En) (h : RdsM w v raw) :
    Calls Try.prog 8 #[v] w fun e w' => e = .returned (.bool true) ∧ Below w.heap.size w w' := by
  obtain ⟨ao, n, cap, rfl⟩ := h.sl
  have kA := awake_any w
  have mixed : Try.prog.follows .mixedOrders = true := by kernel_rfl
  have HG : Hid _ := h
  clear h
  go_enter Try.func8, Try.ntmps8
  go_wp2_with fail
  refine kA.mono ?_
  rintro e U ⟨rfl, bU⟩
  have kR := right_any U 4 0 _ raw (HG.out.below bU) (by unfold In64; omega) (by unfold In64; omega)
  have HU : Hid _ := bU
  clear kA bU HG
  go_wp2_with fail
  refine kR.mono ?_
  rintro e X ⟨k', c', vx, x, rfl, hkc, rx, fx, lx, bX⟩
  obtain ⟨xa, xl, xc, rfl⟩ := rx.sl
  have b0 := HU.out
  obtain ⟨Y, hY⟩ : ∃ Y, Y = (X.alloc (.cells #[.int .i64 2, .int .i64 2] 23)).alloc (.cells #[.int .i64 k', .int .i64 c'] 26) := ⟨_, rfl⟩
  have gY : Below X.heap.size X Y := by rw [hY]; exact ((Grows.alloc _ _).trans (Grows.alloc _ _)).below
  have hb : Y.cell? ⟨X.heap.size + 1, 0, none⟩ = some (.int .i64 k') ∧ Y.cell? ⟨X.heap.size + 1, 1, none⟩ = some (.int .i64 c') := by
    rw [hY]; exact ⟨al_new _ _ _ (by simp) rfl, al_new _ _ _ (by simp) rfl⟩
  have bUY : Below U.heap.size U Y := bX.trans (gY.mono bX.size)
  have tx := fe_tot fx lx
  have dx : ∀ e ∈ x, e.f.ds.length = 2 ∧ e.f.ms.length = 2 := fun e he => ⟨(fx e he).ld, (fx e he).lm⟩
  have ax := fe_aok fx
  obtain ⟨cc, rfl⟩ : ∃ cc : Nat, c' = (cc : Int) := ⟨c'.toNat, by omega⟩
  have kO := of_any Y k' cc _ x (rx.below gY) ax (by omega) (by omega)
  have nx := of_len k' cc x ax (by omega)
  have hJ : x.foldl (rstep k' (cc : Int)) U0 = ofP k' cc x := rfold_same k' cc ax (by omega)
  have gx := of_gd (k := k') (c := (cc : Int)) ax (by omega)
  have HY : Hid _ := And.intro hY (And.intro (b0.trans (bUY.mono b0.size)) (And.intro (rx.below gY) (And.intro ax (And.intro tx (And.intro lx (And.intro hb (And.intro hkc (And.intro hJ (And.intro nx gx)))))))))
  unfold Gives at kO
  rw [hY] at kO hb
  clear kR b0 bX gY hY tx ax fx lx rx bUY HU hkc hJ nx gx
  go_wp2_with fail
  refine kO.mono ?_
  rintro e Z ⟨p, rfl, okp, -, hp0, bZ⟩
  obtain ⟨hY, bY, rx, ax, tx, lx, hb, hkc, hJ, nx, gx⟩ := HY.out
  rw [← hY] at bZ
  obtain ⟨pn, pv, ptv, pts⟩ := p
  obtain ⟨pa, pl, pc, hv⟩ := okp.rt.sl
  simp only at hv
  subst hv
  obtain ⟨V, hV⟩ : ∃ V, V = Z.alloc (.cells #[.int .u64 pn, .int .i64 pv, .slice pa pl pc] 30) := ⟨_, rfl⟩
  have gV : Below Z.heap.size Z V := by rw [hV]; exact (Grows.alloc _ _).below
  have bxp : Box3 V Z.heap.size (.int .u64 pn) (.int .i64 pv) (.slice pa pl pc) := by rw [hV]; exact Box3.new _ _ _ _ _ _ rfl
  have bYV : Below Y.heap.size Y V := bZ.trans (gV.mono bZ.size)
  have okp := okp.up gV
  have hpl : pts.length ≤ 40 := by
    have : pts = (ofP k' cc x).2.2 := by rw [← hp0]; rfl
    rw [this]; omega
  have hb2 := And.intro (cell_up bYV hb.1) (cell_up bYV hb.2)
  have hmr : mrgP k' (Pt.mk pn pv (.slice pa pl pc) pts).p0 U0 = (Pt.mk pn pv (.slice pa pl pc) pts).p0 := by rw [hp0]; exact mrg_r gx
  have HKM : Aside (∀ X', Below V.heap.size V X' → Calls Try.prog 21 #[.agg #[.int .i64 k', .int .i64 (cc : Int)], .agg #[.int .u64 pn, .int .i64 pv, .slice pa pl pc], .agg #[.int .u64 0, .int .i64 0, .slice none 0 0]] X' (GivesO (Pt.mk pn pv (.slice pa pl pc) pts).p0 X')) := fun X' b => by
    have := merge_own X' k' cc ⟨pn, pv, .slice pa pl pc, pts⟩ ⟨0, 0, .slice none 0 0, []⟩ (okp.up b) ⟨Rds.nil _⟩ (by show pts.length * 16 ≤ _; omega) rfl
    rw [show (Pt.mk 0 0 (.slice none 0 0) []).p0 = U0 from rfl, hmr] at this
    exact this
  have HKA : Aside (∀ (X' : World) (f : Fc), f.Ok X' → Below V.heap.size V X' → Calls Try.prog 23 #[.agg #[.int .i64 k', .int .i64 (cc : Int)], .agg #[.int .u64 pn, .int .i64 pv, .slice pa pl pc], .agg #[.int .i64 f.t, f.dv, f.mv], .int .u64 0] X' (GivesO (Pt.mk pn pv (.slice pa pl pc) pts).p0 X')) := fun X' f hf b =>
    add_own X' k' cc 0 ⟨pn, pv, .slice pa pl pc, pts⟩ f (okp.up b) hf (by show pts.length * 16 ≤ _; omega) rfl
  have HKF : Aside (∀ X', Below V.heap.size V X' → Calls Try.prog 17 #[.agg #[.int .i64 k', .int .i64 (cc : Int)], .slice xa xl xc] X' (Gives (Pt.mk pn pv (.slice pa pl pc) pts).p0 X')) := fun X' b => by
    have := refof_any X' k' cc _ x (rx.below (bYV.trans (b.mono bYV.size))) (by omega) ⟨hkc.1, hkc.2.1⟩ dx ax (by omega) (by omega)
    rw [hJ, ← hp0] at this
    exact this
  have HV : Hid (V = Z.alloc (.cells #[.int .u64 pn, .int .i64 pv, .slice pa pl pc] 30)) := hV
  have HBV : Hid (Below w.heap.size w V) := bY.trans (bYV.mono bY.size)
  have HOP : Hid (Pt.Ok V ⟨pn, pv, .slice pa pl pc, pts⟩) := okp
  have hb := hb2
  clear kO hY bY rx ax tx lx hkc hJ nx gx bZ hV gV bYV okp hpl hb2 hmr hp0 dx HY
  go_wp2_with fail
  rw [← HV.out]
  go_cut [8] (fun t wA => ∃ B, t = .pointer (some ⟨B, 0, none⟩) ∧ Hid (∃ r : Pt, Box3 wA B (.int .u64 r.n) (.int .i64 r.v) r.tv ∧ OwnP V.heap.size wA r ∧ r.tv.ownBlock ≠ some B ∧ V.heap.size ≤ B ∧ Below V.heap.size V wA))
  case first =>
    refine wp_region_invF (β := Value × Value × Value × Value × Value × Value) (fun a0 xq => ((((((a0.put (some 25) (xq.1)).put (some 26) (xq.2.1)).put (some 27) (xq.2.2.1)).put (some 28) (xq.2.2.2.1)).put (some 29) (xq.2.2.2.2.1)).put (some 8) (xq.2.2.2.2.2))) ?fr25 (fun xq d w' => ((d 6 = false ∧ Below V.heap.size V w' ∧ (d 0 = true → Evr w' (fun _ => (xq.1) = .agg #[.int .i64 k', .int .i64 (cc : Int)])) ∧ (d 1 = true → Evr w' (fun _ => (xq.2.1) = .agg #[.int .u64 pn, .int .i64 pv, .slice pa pl pc])) ∧ (d 2 = true → Evr w' (fun _ => (xq.2.2.1) = .agg #[.int .i64 k', .int .i64 (cc : Int)])) ∧ (d 3 = true → Evr w' (fun _ => (xq.2.2.2.1) = .agg #[.int .u64 0, .int .i64 0, .slice none 0 0])) ∧ (d 4 = true → Evr w' (fun X => ∃ r : Pt, (xq.2.2.2.2.1) = .agg #[.int .u64 r.n, .int .i64 r.v, r.tv] ∧ OwnP V.heap.size X r)) ∧ (d 5 = true → Evr w' (fun X => ∃ B, (xq.2.2.2.2.2) = .pointer (some ⟨B, 0, none⟩) ∧ V.heap.size ≤ B ∧ Box3 X B (.int .u64 0) (.int .i64 0) (.slice none 0 0))) ∧ (d 4 = true → d 5 = true → Evr w' (fun X => ∃ (r : Pt) (B : Nat), (xq.2.2.2.2.1) = .agg #[.int .u64 r.n, .int .i64 r.v, r.tv] ∧ (xq.2.2.2.2.2) = .pointer (some ⟨B, 0, none⟩) ∧ r.tv.ownBlock ≠ some B ∧ OwnP V.heap.size X r))) ∨ ((∀ j, j < 7 → d j = true) ∧ ∃ (r : Pt) (B : Nat), (xq.2.2.2.2.2) = .pointer (some ⟨B, 0, none⟩) ∧ Box3 w' B (.int .u64 r.n) (.int .i64 r.v) r.tv ∧ OwnP V.heap.size w' r ∧ r.tv.ownBlock ≠ some B ∧ V.heap.size ≤ B ∧ Below V.heap.size V w'))) ?lay25 mixed (by kernel_rfl) ?h025 ?hs25 ?he25
    case lay25 =>
      intro xq
      simp only [Act.put, List.setIfInBounds_toArray, List.set_cons_zero, List.set_cons_succ]
      rfl
    case h025 => exact ⟨(undef, undef, undef, undef, undef, undef), rfl, .inl ⟨rfl, below_dN (Below.refl _ _) 1, (fun h => by cases h), (fun h => by cases h), (fun h => by cases h), (fun h => by cases h), (fun h => by cases h), (fun h => by cases h), (fun h => by cases h)⟩⟩
    case hs25 =>
      refine ⟨?_, ?_, ?_, ?_, ?_, ?_, ?_, trivial⟩
      · rintro d ⟨x25, x26, x27, x28, x29, x8⟩ w' hI hd hdp K hK
        dsimp only at hI
        rcases hI with ⟨hl, hB, f0, f1, f2, f3, f4, f5, f6⟩ | ⟨hall, -⟩
        case inr => exact absurd (hall 0 (by decide)) (by rw [hd]; decide)
        have c0 := cell_up hB hb.1
        have c1 := cell_up hB hb.2
        have HF : Hid _ := (And.intro hl (And.intro hB (And.intro f0 (And.intro f1 (And.intro f2 (And.intro f3 (And.intro f4 (And.intro f5 f6))))))))
        clear f0 f1 f2 f3 f4 f5 f6 hB hdp hl hd
        refine Opn.mk ?_
        dsimp only
        go_simp
        obtain ⟨hl, hB, f0, f1, f2, f3, f4, f5, f6⟩ := HF.out
        exact hK.out (.agg #[.int .i64 k', .int .i64 (cc : Int)], x26, x27, x28, x29, x8) _ (.inl ⟨by rw [upd_no (by decide)]; exact hl, hB.trans (Below.mono (Below.refl w'.heap.size w') hB.size), (fun _ => fun _ _ => rfl), (fun h1 => by first | exact (f1 (upd_ne h1 (by decide))).up (Below.refl w'.heap.size w') | exact fun _ _ => rfl), (fun h2 => by first | exact (f2 (upd_ne h2 (by decide))).up (Below.refl w'.heap.size w') | exact fun _ _ => rfl), (fun h3 => by first | exact (f3 (upd_ne h3 (by decide))).up (Below.refl w'.heap.size w') | exact fun _ _ => rfl), (fun h4 => by first | exact (f4 (upd_ne h4 (by decide))).up (Below.refl w'.heap.size w') | exact fun _ _ => rfl), (fun h5 => by first | exact (f5 (upd_ne h5 (by decide))).up (Below.refl w'.heap.size w') | exact fun _ _ => rfl), (fun h4 h5 => by first | exact (f6 (upd_ne h4 (by decide)) (upd_ne h5 (by decide))).up (Below.refl w'.heap.size w') | exact fun _ _ => rfl)⟩)
      · rintro d ⟨x25, x26, x27, x28, x29, x8⟩ w' hI hd hdp K hK
        dsimp only at hI
        rcases hI with ⟨hl, hB, f0, f1, f2, f3, f4, f5, f6⟩ | ⟨hall, -⟩
        case inr => exact absurd (hall 1 (by decide)) (by rw [hd]; decide)
        obtain ⟨c0, c1, c2, -⟩ := bxp.up hB
        have HF : Hid _ := (And.intro hl (And.intro hB (And.intro f0 (And.intro f1 (And.intro f2 (And.intro f3 (And.intro f4 (And.intro f5 f6))))))))
        clear f0 f1 f2 f3 f4 f5 f6 hB hdp hl hd
        refine Opn.mk ?_
        dsimp only
        go_simp
        obtain ⟨hl, hB, f0, f1, f2, f3, f4, f5, f6⟩ := HF.out
        exact hK.out (x25, .agg #[.int .u64 pn, .int .i64 pv, .slice pa pl pc], x27, x28, x29, x8) _ (.inl ⟨by rw [upd_no (by decide)]; exact hl, hB.trans (Below.mono (Below.refl w'.heap.size w') hB.size), (fun h0 => by first | exact (f0 (upd_ne h0 (by decide))).up (Below.refl w'.heap.size w') | exact fun _ _ => rfl), (fun _ => fun _ _ => rfl), (fun h2 => by first | exact (f2 (upd_ne h2 (by decide))).up (Below.refl w'.heap.size w') | exact fun _ _ => rfl), (fun h3 => by first | exact (f3 (upd_ne h3 (by decide))).up (Below.refl w'.heap.size w') | exact fun _ _ => rfl), (fun h4 => by first | exact (f4 (upd_ne h4 (by decide))).up (Below.refl w'.heap.size w') | exact fun _ _ => rfl), (fun h5 => by first | exact (f5 (upd_ne h5 (by decide))).up (Below.refl w'.heap.size w') | exact fun _ _ => rfl), (fun h4 h5 => by first | exact (f6 (upd_ne h4 (by decide)) (upd_ne h5 (by decide))).up (Below.refl w'.heap.size w') | exact fun _ _ => rfl)⟩)
      · rintro d ⟨x25, x26, x27, x28, x29, x8⟩ w' hI hd hdp K hK
        dsimp only at hI
        rcases hI with ⟨hl, hB, f0, f1, f2, f3, f4, f5, f6⟩ | ⟨hall, -⟩
        case inr => exact absurd (hall 2 (by decide)) (by rw [hd]; decide)
        have c0 := cell_up hB hb.1
        have c1 := cell_up hB hb.2
        have HF : Hid _ := (And.intro hl (And.intro hB (And.intro f0 (And.intro f1 (And.intro f2 (And.intro f3 (And.intro f4 (And.intro f5 f6))))))))
        clear f0 f1 f2 f3 f4 f5 f6 hB hdp hl hd
        refine Opn.mk ?_
        dsimp only
        go_simp
        obtain ⟨hl, hB, f0, f1, f2, f3, f4, f5, f6⟩ := HF.out
        exact hK.out (x25, x26, .agg #[.int .i64 k', .int .i64 (cc : Int)], x28, x29, x8) _ (.inl ⟨by rw [upd_no (by decide)]; exact hl, hB.trans (Below.mono (Below.refl w'.heap.size w') hB.size), (fun h0 => by first | exact (f0 (upd_ne h0 (by decide))).up (Below.refl w'.heap.size w') | exact fun _ _ => rfl), (fun h1 => by first | exact (f1 (upd_ne h1 (by decide))).up (Below.refl w'.heap.size w') | exact fun _ _ => rfl), (fun _ => fun _ _ => rfl), (fun h3 => by first | exact (f3 (upd_ne h3 (by decide))).up (Below.refl w'.heap.size w') | exact fun _ _ => rfl), (fun h4 => by first | exact (f4 (upd_ne h4 (by decide))).up (Below.refl w'.heap.size w') | exact fun _ _ => rfl), (fun h5 => by first | exact (f5 (upd_ne h5 (by decide))).up (Below.refl w'.heap.size w') | exact fun _ _ => rfl), (fun h4 h5 => by first | exact (f6 (upd_ne h4 (by decide)) (upd_ne h5 (by decide))).up (Below.refl w'.heap.size w') | exact fun _ _ => rfl)⟩)
      · rintro d ⟨x25, x26, x27, x28, x29, x8⟩ w' hI hd hdp K hK
        dsimp only at hI
        rcases hI with ⟨hl, hB, f0, f1, f2, f3, f4, f5, f6⟩ | ⟨hall, -⟩
        case inr => exact absurd (hall 3 (by decide)) (by rw [hd]; decide)
        obtain rfl := (f2 (hdp 2 (by decide +kernel))).now
        have kk := start_any w' k' cc
        try simp only at kk
        have HF : Hid _ := (And.intro hl (And.intro hB (And.intro f0 (And.intro f1 (And.intro f2 (And.intro f3 (And.intro f4 (And.intro f5 f6))))))))
        clear f0 f1 f2 f3 f4 f5 f6 hB hdp hl hd
        refine Opn.mk ?_
        dsimp only
        go_simp
        go_wp2_with (first | (go_at_call 22; with_reducible refine kk.mono ?_; rintro e5 w5 ⟨rfl, g5⟩))
        obtain ⟨hl, hB, f0, f1, f2, f3, f4, f5, f6⟩ := HF.out
        exact hK.out (x25, x26, .agg #[.int .i64 k', .int .i64 (cc : Int)], .agg #[.int .u64 0, .int .i64 0, .slice none 0 0], x29, x8) _ (.inl ⟨by rw [upd_no (by decide)]; exact hl, hB.trans (Below.mono (Grows.below g5) hB.size), (fun h0 => by first | exact (f0 (upd_ne h0 (by decide))).up (Grows.below g5) | exact fun _ _ => rfl), (fun h1 => by first | exact (f1 (upd_ne h1 (by decide))).up (Grows.below g5) | exact fun _ _ => rfl), (fun h2 => by first | exact (f2 (upd_ne h2 (by decide))).up (Grows.below g5) | exact fun _ _ => rfl), (fun _ => fun _ _ => rfl), (fun h4 => by first | exact (f4 (upd_ne h4 (by decide))).up (Grows.below g5) | exact fun _ _ => rfl), (fun h5 => by first | exact (f5 (upd_ne h5 (by decide))).up (Grows.below g5) | exact fun _ _ => rfl), (fun h4 h5 => by first | exact (f6 (upd_ne h4 (by decide)) (upd_ne h5 (by decide))).up (Grows.below g5) | exact fun _ _ => rfl)⟩)
      · rintro d ⟨x25, x26, x27, x28, x29, x8⟩ w' hI hd hdp K hK
        dsimp only at hI
        rcases hI with ⟨hl, hB, f0, f1, f2, f3, f4, f5, f6⟩ | ⟨hall, -⟩
        case inr => exact absurd (hall 4 (by decide)) (by rw [hd]; decide)
        obtain rfl := (f0 (hdp 0 (by decide +kernel))).now
        obtain rfl := (f1 (hdp 1 (by decide +kernel))).now
        obtain rfl := (f3 (hdp 3 (by decide +kernel))).now
        have kk := HKM.out w' hB
        try simp only at kk
        unfold GivesO at kk
        have HF : Hid _ := (And.intro hl (And.intro hB (And.intro f0 (And.intro f1 (And.intro f2 (And.intro f3 (And.intro f4 (And.intro f5 f6))))))))
        clear f0 f1 f2 f3 f4 f5 f6 hB hdp hl hd
        refine Opn.mk ?_
        dsimp only
        go_simp
        go_wp2_with (first | (go_at_call 21; with_reducible refine kk.mono ?_; rintro e5 w5 ⟨s5, rfl, own5, hr5, b5⟩))
        obtain ⟨hl, hB, f0, f1, f2, f3, f4, f5, f6⟩ := HF.out
        exact hK.out (.agg #[.int .i64 k', .int .i64 (cc : Int)], .agg #[.int .u64 pn, .int .i64 pv, .slice pa pl pc], x27, .agg #[.int .u64 0, .int .i64 0, .slice none 0 0], .agg #[.int .u64 s5.n, .int .i64 s5.v, s5.tv], x8) _ (.inl ⟨by rw [upd_no (by decide)]; exact hl, hB.trans (Below.mono (b5) hB.size), (fun h0 => by first | exact (f0 (upd_ne h0 (by decide))).up (b5) | exact fun _ _ => rfl), (fun h1 => by first | exact (f1 (upd_ne h1 (by decide))).up (b5) | exact fun _ _ => rfl), (fun h2 => by first | exact (f2 (upd_ne h2 (by decide))).up (b5) | exact fun _ _ => rfl), (fun h3 => by first | exact (f3 (upd_ne h3 (by decide))).up (b5) | exact fun _ _ => rfl), (fun _ => fun X bX => ⟨s5, rfl, (OwnP.up (own_mono own5 hB.size) bX)⟩), (fun h5 => by first | exact (f5 (upd_ne h5 (by decide))).up (b5) | exact fun _ _ => rfl), (fun _ h5 => fun X bX => by
                obtain ⟨B', e', l', bx'⟩ := (f5 (upd_ne h5 (by decide))).now
                exact ⟨s5, B', rfl, e', fun e => by have := (World.ownsRow.lt own5 _ e).1; have := bx'.lt; omega, (OwnP.up (own_mono own5 hB.size) bX)⟩)⟩)
      · rintro d ⟨x25, x26, x27, x28, x29, x8⟩ w' hI hd hdp K hK
        dsimp only at hI
        rcases hI with ⟨hl, hB, f0, f1, f2, f3, f4, f5, f6⟩ | ⟨hall, -⟩
        case inr => exact absurd (hall 5 (by decide)) (by rw [hd]; decide)
        skip
        have HF : Hid _ := (And.intro hl (And.intro hB (And.intro f0 (And.intro f1 (And.intro f2 (And.intro f3 (And.intro f4 (And.intro f5 f6))))))))
        clear f0 f1 f2 f3 f4 f5 f6 hB hdp hl hd
        refine Opn.mk ?_
        dsimp only
        go_simp
        obtain ⟨hl, hB, f0, f1, f2, f3, f4, f5, f6⟩ := HF.out
        exact hK.out (x25, x26, x27, x28, x29, .pointer (some ⟨w'.heap.size, 0, none⟩)) _ (.inl ⟨by rw [upd_no (by decide)]; exact hl, hB.trans (Below.mono ((Grows.alloc _ _).below) hB.size), (fun h0 => by first | exact (f0 (upd_ne h0 (by decide))).up ((Grows.alloc _ _).below) | exact fun _ _ => rfl), (fun h1 => by first | exact (f1 (upd_ne h1 (by decide))).up ((Grows.alloc _ _).below) | exact fun _ _ => rfl), (fun h2 => by first | exact (f2 (upd_ne h2 (by decide))).up ((Grows.alloc _ _).below) | exact fun _ _ => rfl), (fun h3 => by first | exact (f3 (upd_ne h3 (by decide))).up ((Grows.alloc _ _).below) | exact fun _ _ => rfl), (fun h4 => by first | exact (f4 (upd_ne h4 (by decide))).up ((Grows.alloc _ _).below) | exact fun _ _ => rfl), (fun _ => fun X bX => ⟨_, rfl, hB.size, (Box3.new _ _ _ _ _ _ rfl).up bX⟩), (fun h4 _ => fun X bX => by
                obtain ⟨r, e, ow⟩ := (f4 (upd_ne h4 (by decide))).now
                exact ⟨r, _, e, rfl, fun e => by have := (World.ownsRow.lt ow _ e).2; omega, (ow.up (Grows.alloc _ _).below).up bX⟩)⟩)
      · rintro d ⟨x25, x26, x27, x28, x29, x8⟩ w' hI hd hdp K hK
        dsimp only at hI
        rcases hI with ⟨hl, hB, f0, f1, f2, f3, f4, f5, f6⟩ | ⟨hall, -⟩
        case inr => exact absurd (hall 6 (by decide)) (by rw [hd]; decide)
        obtain ⟨B, e2, hle, bx⟩ := (f5 (hdp 5 (by decide +kernel))).now
        obtain ⟨r, B', e11, e2', hne, ow⟩ := (f6 (hdp 4 (by decide +kernel)) (hdp 5 (by decide +kernel))).now
        have hall : ∀ j, j < 7 → upd d 6 j = true := fun j hj => by
          rcases (by omega : j = 0 ∨ j = 1 ∨ j = 2 ∨ j = 3 ∨ j = 4 ∨ j = 5 ∨ j = 6) with rfl | rfl | rfl | rfl | rfl | rfl | rfl
          all_goals first | rfl | (rw [upd_no (by decide)]; exact hdp _ (by decide +kernel))
        subst e11 e2
        cases e2'
        have HP : Hid _ := bx.put (.int .u64 r.n) (.int .i64 r.v) r.tv
        have HH : Hid _ := And.intro hall (And.intro hne (And.intro ow hle))
        have hsl : ∃ a n c, r.tv = .slice a n c := own_sl ow
        obtain ⟨rn, rv, rtv, rts⟩ := r
        obtain ⟨a7, n7, c7, hv7⟩ := hsl
        simp only at hv7
        subst hv7
        obtain ⟨y0, y1, y2, yf⟩ := bx
        clear hall hne ow hle
        have HF : Hid _ := (And.intro hl (And.intro hB (And.intro f0 (And.intro f1 (And.intro f2 (And.intro f3 (And.intro f4 (And.intro f5 f6))))))))
        clear f0 f1 f2 f3 f4 f5 f6 hB hdp hl hd
        refine Opn.mk ?_
        dsimp only
        go_simp
        obtain ⟨hl, hB, f0, f1, f2, f3, f4, f5, f6⟩ := HF.out
        obtain ⟨hall, hne, ow, hle⟩ := HH.out
        exact hK.out (x25, x26, x27, x28, .agg #[.int .u64 rn, .int .i64 rv, .slice a7 n7 c7], .pointer (some ⟨B, 0, none⟩)) _ (.inr ⟨hall, ⟨rn, rv, .slice a7 n7 c7, rts⟩, B, rfl, HP.out, own_put3' ow hne _ _ _, hne, hle, below_put3 hB hle _ _ _⟩)
    case he25 =>
      rintro d ⟨x25, x26, x27, x28, x29, x8⟩ w' hall hI
      dsimp only at hI
      rcases hI with ⟨hl, -⟩ | ⟨-, r, B, rfl, bx, ow, hne, hle, bl⟩
      · exact absurd (hall 6 (by decide)) (by rw [hl]; decide)
      have HI : Hid (∃ r : Pt, Box3 w' B (.int .u64 r.n) (.int .i64 r.v) r.tv ∧ OwnP V.heap.size w' r ∧ r.tv.ownBlock ≠ some B ∧ V.heap.size ≤ B ∧ Below V.heap.size V w') := ⟨r, bx, ow, hne, hle, bl⟩
      clear bx ow hne hle bl hall
      dsimp only
      go_wp2_with fail
      go_meet
      case rel => exact ⟨B, rfl, HI⟩
  case rest =>
    rename World => wA
    obtain ⟨B8, rfl, HR⟩ := hcut
    obtain ⟨q, bxq, oq, qne, hB8, bA⟩ := HR.out
    obtain ⟨qn, qv, qtv, qts⟩ := q
    simp only [OwnP] at bxq oq qne
    obtain ⟨qa, qc, hv, hqm⟩ := own_len oq
    subst hv
    obtain ⟨ql, hql⟩ : ∃ ql, ql = qts.length := ⟨_, rfl⟩
    rw [← hql] at bxq oq qne hqm
    obtain ⟨WB, hWB⟩ : ∃ WB, WB = wA.alloc (.cells #[.string ⟨#[97]⟩, .string ⟨#[98]⟩] 9) := ⟨_, rfl⟩
    have gB : Below wA.heap.size wA WB := by rw [hWB]; exact (Grows.alloc _ _).below
    have hfk : Fc.Ok WB ⟨0, .slice (some ⟨wA.heap.size, 0, none⟩) 2 2, .slice none 0 0, [[97], [98]], []⟩ := by
      refine ⟨?_, Rds.nil _⟩
      have h := rds_own1 (own_full wA 9 #[.string ⟨#[97]⟩, .string ⟨#[98]⟩] 2 (by decide) rfl)
      rw [← hWB] at h
      exact h
    have bVB : Below V.heap.size V WB := bA.trans (gB.mono bA.size)
    have kAd := HKA.out WB ⟨0, .slice (some ⟨wA.heap.size, 0, none⟩) 2 2, .slice none 0 0, [[97], [98]], []⟩ hfk bVB
    simp only at kAd
    unfold GivesO at kAd
    have c0 := cell_up bA hb.1
    have c1 := cell_up bA hb.2
    obtain ⟨c2, c3, c4, -⟩ := bxp.up bA
    have HQ : Hid _ := And.intro (bxq.up gB) (And.intro (own_below oq gB) (And.intro qne (And.intro bVB (And.intro bxq.lt gB.size))))
    have hqs : ∀ j, (Value.slice qa ql qc).ownBlock = some j → j < wA.heap.size := fun j hj => (World.ownsRow.lt oq j hj).2
    have HQS : Hid _ := hqs
    have HWB : Hid _ := hWB
    rw [hWB] at kAd
    clear bxq oq qne hB8 bA gB hfk bVB hql HR hWB hqs
    go_wp2_with fail
    refine kAd.mono ?_
    rintro e wC ⟨r, rfl, orr, -, bC⟩
    rw [← HWB.out] at orr bC
    obtain ⟨rn, rv, rtv, rts⟩ := r
    simp only at orr
    obtain ⟨ra, rc, hv, hrm⟩ := own_len orr
    subst hv
    obtain ⟨rl, hrl⟩ : ∃ rl, rl = rts.length := ⟨_, rfl⟩
    rw [← hrl] at orr hrm ⊢
    obtain ⟨wD, hwD⟩ : ∃ wD, wD = wC.alloc (.cells #[.int .u64 rn, .int .i64 rv, .slice ra rl rc] 30) := ⟨_, rfl⟩
    have hO : OSt V wD B8 wC.heap.size qn qv rn rv (.slice qa ql qc) (.slice ra rl rc) ql rl := by
      obtain ⟨bxq, oq, qne, bVB, b8, gz⟩ := HQ.out
      have gD : Below wC.heap.size wC wD := by rw [hwD]; exact (Grows.alloc _ _).below
      have gBD := bC.trans (gD.mono bC.size)
      refine ⟨bxq.up gBD, by rw [hwD]; exact Box3.new _ _ _ _ _ _ rfl, ⟨_, own_below oq gBD⟩, ⟨_, own_mono (own_below orr gD) bVB.size⟩, qne, fun h => ?_, fun h => ?_, fun h => ?_, bVB.trans (gBD.mono bVB.size)⟩
      · have := HQS.out _ h; have := bC.size; omega
      · have := (World.ownsRow.lt orr _ h).1; omega
      · have := (World.ownsRow.lt orr _ h).2; omega
    have hqm' : ql ≤ 9223372036854775807 := hqm
    have hrm' : rl ≤ 9223372036854775807 := hrm
    have HO : Hid _ := hO
    have HWD : Hid (wD = wC.alloc (.cells #[.int .u64 rn, .int .i64 rv, .slice ra rl rc] 30)) := hwD
    have hb0 := hb
    clear kAd orr bC hrl hqm hrm hwD hO HQ HQS HWB c0 c1 c2 c3 c4 hb
    go_wp2_with fail
    rw [← HWD.out]
    go_loopg [10] ql (fun kx v10 wr => ∃ i : Nat, v10 = .int .i64 i ∧ i ≤ ql ∧ ql - i ≤ kx ∧ Hid (OSt V wr B8 wC.heap.size qn qv rn rv (.slice qa ql qc) (.slice ra rl rc) ql rl))
    case atStart => exact ⟨0, rfl, by omega, Nat.le_refl _, HO⟩
    case round =>
      obtain ⟨i, rfl, hi, hkx, HS⟩ := hrel
      obtain ⟨y0, y1, y2, yf⟩ := HS.out.bq
      by_cases hlt : i < ql
      · have hltz : (i : Int) < (ql : Int) := by omega
        obtain ⟨xs, oq⟩ := HS.out.oq
        obtain ⟨g, cap', he, hg, ⟨u0, hc0⟩, hf0⟩ := own_cell oq hlt
        cases he
        have HG : Hid (V.heap.size ≤ g) := hg
        clear oq hg
        go_wp2_with fail
        go_roundg (ql - (i + 1))
        case measure => omega
        case rel => exact ⟨i + 1, by go_num, by omega, Nat.le_refl _, HS.out.set HG.out (fun e => HS.out.q8 (by rw [← e]; rfl)) (fun e => HS.out.q9 (by rw [← e]; rfl)) _ _⟩
      · have hltz : ¬ (i : Int) < (ql : Int) := by omega
        go_wp2_with fail
        clear y0 y1 y2 yf
        go_loopg [11] rl (fun kx v11 wr => ∃ i : Nat, v11 = .int .i64 i ∧ i ≤ rl ∧ rl - i ≤ kx ∧ Hid (OSt V wr B8 wC.heap.size qn qv rn rv (.slice qa ql qc) (.slice ra rl rc) ql rl))
        case atStart => exact ⟨0, rfl, by omega, Nat.le_refl _, HS⟩
        case round =>
          clear HS
          obtain ⟨j, rfl, hj, hky, HS⟩ := hrel
          obtain ⟨y0, y1, y2, yf⟩ := HS.out.br
          by_cases hlj : j < rl
          · have hljz : (j : Int) < (rl : Int) := by omega
            obtain ⟨xs, oq⟩ := HS.out.or
            obtain ⟨g, cap', he, hg, ⟨u0, hc0⟩, hf0⟩ := own_cell oq hlj
            cases he
            have HG : Hid (V.heap.size ≤ g) := hg
            clear oq hg
            go_wp2_with fail
            go_roundg (rl - (j + 1))
            case measure => omega
            case rel => exact ⟨j + 1, by go_num, by omega, Nat.le_refl _, HS.out.set HG.out (fun e => HS.out.r8 (by rw [← e]; rfl)) (fun e => HS.out.r9 (by rw [← e]; rfl)) _ _⟩
          · have hljz : ¬ (j : Int) < (rl : Int) := by omega
            have bl := HS.out.bl
            have hb := And.intro (cell_up bl hb0.1) (cell_up bl hb0.2)
            have bxp := bxp.up bl
            have HKF2 : Aside (∀ X', Below wr.heap.size wr X' → Calls Try.prog 17 #[.agg #[.int .i64 k', .int .i64 (cc : Int)], .slice xa xl xc] X' (Gives (Pt.mk pn pv (.slice pa pl pc) pts).p0 X')) := fun X' b => HKF.out X' (bl.trans (b.mono bl.size))
            have HOP2 : Hid (Pt.Ok wr ⟨pn, pv, .slice pa pl pc, pts⟩) := HOP.out.up bl
            have HBW : Hid (Below w.heap.size w wr) := HBV.out.trans (bl.mono HBV.out.size)
            go_wp2_with fail
            clear y0 y1 y2 yf bl HS
            refine wp_region_invF (β := Value × Value × Value × Value × Value × Value) (fun a0 xq => ((((((a0.put (some 57) (xq.1)).put (some 58) (xq.2.1)).put (some 59) (xq.2.2.1)).put (some 60) (xq.2.2.2.1)).put (some 61) (xq.2.2.2.2.1)).put (some 2) (xq.2.2.2.2.2))) ?fr57 (fun xq d w' => Below wr.heap.size wr w' ∧ (d 0 = true → Evr w' (fun _ => (xq.1) = .agg #[.int .u64 pn, .int .i64 pv, .slice pa pl pc])) ∧ (d 1 = true → Evr w' (fun _ => (xq.2.1) = .agg #[.int .i64 k', .int .i64 (cc : Int)])) ∧ (d 2 = true → Evr w' (fun _ => (xq.2.2.1) = .slice xa xl xc)) ∧ (d 3 = true → Evr w' (fun X => ∃ r : Pt, (xq.2.2.2.1) = .agg #[.int .u64 r.n, .int .i64 r.v, r.tv] ∧ r.p0 = (Pt.mk pn pv (.slice pa pl pc) pts).p0 ∧ r.Ok X)) ∧ (d 4 = true → Evr w' (fun _ => (xq.2.2.2.2.1) = .bool true)) ∧ (d 5 = true → Evr w' (fun _ => (xq.2.2.2.2.2) = .bool true))) ?lay57 mixed (by kernel_rfl) ?h057 ?hs57 ?he57
            case lay57 =>
              intro xq
              simp only [Act.put, List.setIfInBounds_toArray, List.set_cons_zero, List.set_cons_succ]
              rfl
            case h057 => exact ⟨(u57, u58, u59, u60, u61, .bool false), rfl, below_dN (Below.refl _ _) 1, (fun h => by cases h), (fun h => by cases h), (fun h => by cases h), (fun h => by cases h), (fun h => by cases h), (fun h => by cases h)⟩
            case hs57 =>
              refine ⟨?_, ?_, ?_, ?_, ?_, ?_, trivial⟩
              · rintro d ⟨x57, x58, x59, x60, x61, x2⟩ w' hI hd hdp K hK
                dsimp only at hI
                obtain ⟨hB, f0, f1, f2, f3, f4, f5⟩ := hI
                obtain ⟨c0, c1, c2, -⟩ := bxp.up hB
                have HF : Hid _ := (And.intro hd (And.intro hB (And.intro f0 (And.intro f1 (And.intro f2 (And.intro f3 (And.intro f4 f5)))))))
                clear f0 f1 f2 f3 f4 f5 hB hdp hd
                refine Opn.mk ?_
                dsimp only
                go_simp
                obtain ⟨hd, hB, f0, f1, f2, f3, f4, f5⟩ := HF.out
                exact hK.out (.agg #[.int .u64 pn, .int .i64 pv, .slice pa pl pc], x58, x59, x60, x61, x2) _ ⟨hB.trans (Below.mono (Below.refl w'.heap.size w') hB.size), (fun _ => fun _ _ => rfl), (fun h1 => by first | exact (f1 (upd_ne h1 (by decide))).up (Below.refl w'.heap.size w') | exact fun _ _ => rfl), (fun h2 => by first | exact (f2 (upd_ne h2 (by decide))).up (Below.refl w'.heap.size w') | exact fun _ _ => rfl), (fun h3 => by first | exact (f3 (upd_ne h3 (by decide))).up (Below.refl w'.heap.size w') | exact fun _ _ => rfl), (fun h4 => by first | exact (f4 (upd_ne h4 (by decide))).up (Below.refl w'.heap.size w') | exact fun _ _ => rfl), (fun h5 => by first | exact (f5 (upd_ne h5 (by decide))).up (Below.refl w'.heap.size w') | exact fun _ _ => rfl)⟩
              · rintro d ⟨x57, x58, x59, x60, x61, x2⟩ w' hI hd hdp K hK
                dsimp only at hI
                obtain ⟨hB, f0, f1, f2, f3, f4, f5⟩ := hI
                have c0 := cell_up hB hb.1
                have c1 := cell_up hB hb.2
                have HF : Hid _ := (And.intro hd (And.intro hB (And.intro f0 (And.intro f1 (And.intro f2 (And.intro f3 (And.intro f4 f5)))))))
                clear f0 f1 f2 f3 f4 f5 hB hdp hd
                refine Opn.mk ?_
                dsimp only
                go_simp
                obtain ⟨hd, hB, f0, f1, f2, f3, f4, f5⟩ := HF.out
                exact hK.out (x57, .agg #[.int .i64 k', .int .i64 (cc : Int)], x59, x60, x61, x2) _ ⟨hB.trans (Below.mono (Below.refl w'.heap.size w') hB.size), (fun h0 => by first | exact (f0 (upd_ne h0 (by decide))).up (Below.refl w'.heap.size w') | exact fun _ _ => rfl), (fun _ => fun _ _ => rfl), (fun h2 => by first | exact (f2 (upd_ne h2 (by decide))).up (Below.refl w'.heap.size w') | exact fun _ _ => rfl), (fun h3 => by first | exact (f3 (upd_ne h3 (by decide))).up (Below.refl w'.heap.size w') | exact fun _ _ => rfl), (fun h4 => by first | exact (f4 (upd_ne h4 (by decide))).up (Below.refl w'.heap.size w') | exact fun _ _ => rfl), (fun h5 => by first | exact (f5 (upd_ne h5 (by decide))).up (Below.refl w'.heap.size w') | exact fun _ _ => rfl)⟩
              · rintro d ⟨x57, x58, x59, x60, x61, x2⟩ w' hI hd hdp K hK
                dsimp only at hI
                obtain ⟨hB, f0, f1, f2, f3, f4, f5⟩ := hI
                skip
                have HF : Hid _ := (And.intro hd (And.intro hB (And.intro f0 (And.intro f1 (And.intro f2 (And.intro f3 (And.intro f4 f5)))))))
                clear f0 f1 f2 f3 f4 f5 hB hdp hd
                refine Opn.mk ?_
                dsimp only
                go_simp
                obtain ⟨hd, hB, f0, f1, f2, f3, f4, f5⟩ := HF.out
                exact hK.out (x57, x58, .slice xa xl xc, x60, x61, x2) _ ⟨hB.trans (Below.mono (Below.refl w'.heap.size w') hB.size), (fun h0 => by first | exact (f0 (upd_ne h0 (by decide))).up (Below.refl w'.heap.size w') | exact fun _ _ => rfl), (fun h1 => by first | exact (f1 (upd_ne h1 (by decide))).up (Below.refl w'.heap.size w') | exact fun _ _ => rfl), (fun _ => fun _ _ => rfl), (fun h3 => by first | exact (f3 (upd_ne h3 (by decide))).up (Below.refl w'.heap.size w') | exact fun _ _ => rfl), (fun h4 => by first | exact (f4 (upd_ne h4 (by decide))).up (Below.refl w'.heap.size w') | exact fun _ _ => rfl), (fun h5 => by first | exact (f5 (upd_ne h5 (by decide))).up (Below.refl w'.heap.size w') | exact fun _ _ => rfl)⟩
              · rintro d ⟨x57, x58, x59, x60, x61, x2⟩ w' hI hd hdp K hK
                dsimp only at hI
                obtain ⟨hB, f0, f1, f2, f3, f4, f5⟩ := hI
                obtain rfl := (f1 (hdp 1 (by decide +kernel))).now
                obtain rfl := (f2 (hdp 2 (by decide +kernel))).now
                have kk := HKF2.out w' hB
                try simp only at kk
                unfold Gives at kk
                have HF : Hid _ := (And.intro hd (And.intro hB (And.intro f0 (And.intro f1 (And.intro f2 (And.intro f3 (And.intro f4 f5)))))))
                clear f0 f1 f2 f3 f4 f5 hB hdp hd
                refine Opn.mk ?_
                dsimp only
                go_simp
                go_wp2_with (first | (go_at_call 17; with_reducible refine kk.mono ?_; rintro e5 w5 ⟨s5, rfl, ok5, new5, hr5, b5⟩))
                obtain ⟨hd, hB, f0, f1, f2, f3, f4, f5⟩ := HF.out
                exact hK.out (x57, .agg #[.int .i64 k', .int .i64 (cc : Int)], .slice xa xl xc, .agg #[.int .u64 s5.n, .int .i64 s5.v, s5.tv], x61, x2) _ ⟨hB.trans (Below.mono (b5) hB.size), (fun h0 => by first | exact (f0 (upd_ne h0 (by decide))).up (b5) | exact fun _ _ => rfl), (fun h1 => by first | exact (f1 (upd_ne h1 (by decide))).up (b5) | exact fun _ _ => rfl), (fun h2 => by first | exact (f2 (upd_ne h2 (by decide))).up (b5) | exact fun _ _ => rfl), (fun _ => fun X bX => ⟨s5, rfl, hr5, ok5.up bX⟩), (fun h4 => by first | exact (f4 (upd_ne h4 (by decide))).up (b5) | exact fun _ _ => rfl), (fun h5 => by first | exact (f5 (upd_ne h5 (by decide))).up (b5) | exact fun _ _ => rfl)⟩
              · rintro d ⟨x57, x58, x59, x60, x61, x2⟩ w' hI hd hdp K hK
                dsimp only at hI
                obtain ⟨hB, f0, f1, f2, f3, f4, f5⟩ := hI
                obtain rfl := (f0 (hdp 0 (by decide +kernel))).now
                obtain ⟨s1, es1, hs1, os1⟩ := (f3 (hdp 3 (by decide +kernel))).now
                subst es1
                have kk := refsame_any w' ⟨pn, pv, .slice pa pl pc, pts⟩ s1 (HOP2.out.up hB) os1 hs1.symm
                try simp only at kk
                have HF : Hid _ := (And.intro hd (And.intro hB (And.intro f0 (And.intro f1 (And.intro f2 (And.intro f3 (And.intro f4 f5)))))))
                clear f0 f1 f2 f3 f4 f5 hB hdp hd
                refine Opn.mk ?_
                dsimp only
                go_simp
                go_wp2_with (first | (go_at_call 18; with_reducible refine kk.mono ?_; rintro e5 w5 ⟨rfl, g5⟩))
                obtain ⟨hd, hB, f0, f1, f2, f3, f4, f5⟩ := HF.out
                exact hK.out (.agg #[.int .u64 pn, .int .i64 pv, .slice pa pl pc], x58, x59, .agg #[.int .u64 s1.n, .int .i64 s1.v, s1.tv], .bool true, x2) _ ⟨hB.trans (Below.mono (Grows.below g5) hB.size), (fun h0 => by first | exact (f0 (upd_ne h0 (by decide))).up (Grows.below g5) | exact fun _ _ => rfl), (fun h1 => by first | exact (f1 (upd_ne h1 (by decide))).up (Grows.below g5) | exact fun _ _ => rfl), (fun h2 => by first | exact (f2 (upd_ne h2 (by decide))).up (Grows.below g5) | exact fun _ _ => rfl), (fun h3 => by first | exact (f3 (upd_ne h3 (by decide))).up (Grows.below g5) | exact fun _ _ => rfl), (fun _ => fun _ _ => rfl), (fun h5 => by first | exact (f5 (upd_ne h5 (by decide))).up (Grows.below g5) | exact fun _ _ => rfl)⟩
              · rintro d ⟨x57, x58, x59, x60, x61, x2⟩ w' hI hd hdp K hK
                dsimp only at hI
                obtain ⟨hB, f0, f1, f2, f3, f4, f5⟩ := hI
                obtain rfl := (f4 (hdp 4 (by decide +kernel))).now
                have HF : Hid _ := (And.intro hd (And.intro hB (And.intro f0 (And.intro f1 (And.intro f2 (And.intro f3 (And.intro f4 f5)))))))
                clear f0 f1 f2 f3 f4 f5 hB hdp hd
                refine Opn.mk ?_
                dsimp only
                go_simp
                obtain ⟨hd, hB, f0, f1, f2, f3, f4, f5⟩ := HF.out
                exact hK.out (x57, x58, x59, x60, .bool true, .bool true) _ ⟨hB.trans (Below.mono (Below.refl w'.heap.size w') hB.size), (fun h0 => by first | exact (f0 (upd_ne h0 (by decide))).up (Below.refl w'.heap.size w') | exact fun _ _ => rfl), (fun h1 => by first | exact (f1 (upd_ne h1 (by decide))).up (Below.refl w'.heap.size w') | exact fun _ _ => rfl), (fun h2 => by first | exact (f2 (upd_ne h2 (by decide))).up (Below.refl w'.heap.size w') | exact fun _ _ => rfl), (fun h3 => by first | exact (f3 (upd_ne h3 (by decide))).up (Below.refl w'.heap.size w') | exact fun _ _ => rfl), (fun h4 => by first | exact (f4 (upd_ne h4 (by decide))).up (Below.refl w'.heap.size w') | exact fun _ _ => rfl), (fun _ => fun _ _ => rfl)⟩
            case he57 =>
              rintro d ⟨x57, x58, x59, x60, x61, x2⟩ w' hall hI
              dsimp only at hI
              obtain ⟨hB, f0, f1, f2, f3, f4, f5⟩ := hI
              obtain rfl := (f5 (hall 5 (by decide))).now
              have HB' : Hid _ := hB
              clear hall hB f0 f1 f2 f3 f4 f5
              dsimp only
              go_wp2_with fail
              go_ret
              exact ⟨rfl, HBW.out.trans (HB'.out.mono HBW.out.size)⟩
end Go.Proofs.Ytkoihniggoelnaa
