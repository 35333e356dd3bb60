/- The walk of FactOwn. -/
import Derived.Test.YtgdeongeonhlpaaSpoil
import Derived.Test.YtgdeongeonhlpaaSpans0
namespace Go.Proofs.Ytgdeongeonhlpaa
open Go.RowKit Go.Sort

set_option maxRecDepth 100000 in
set_option maxHeartbeats 8000000 in
theorem own_walk (w : World) (vl : Value) (l : List Fc) (F T : Int) (hl : RdsF w vl l) :
    Calls Try.prog 8 #[vl, .agg #[.int .i64 F, .int .i64 T]] w fun e w' => e = .returned (.bool true) ∧ Below w.heap.size w w' := by
  obtain ⟨al, nl, cl, rfl⟩ := hl.sl
  obtain ⟨el, l1, l2⟩ := hl.len
  unfold maxLen at l2
  obtain ⟨W, hW⟩ : ∃ W, W = w.alloc (.cells #[.int .i64 F, .int .i64 T] 43) := ⟨_, rfl⟩
  have bW : Below w.heap.size w W := by rw [hW]; exact (Below.refl _ _).alloc (Nat.le_refl _) _
  have zW : w.heap.size < W.heap.size := by rw [hW]; simp
  have hbox : ∀ w5, Below W.heap.size W w5 → w5.cell? ⟨w.heap.size, 0, none⟩ = some (.int .i64 F) ∧ w5.cell? ⟨w.heap.size, 1, none⟩ = some (.int .i64 T) := fun w5 h5 => by
    refine ⟨?_, ?_⟩ <;> (rw [h5.cell (by exact zW), hW]; simp)
  have HBX : Aside _ := hbox
  have kA := awake_any W
  have HL : Hid (RdsF W (.slice al nl cl) l) := hl.below bW
  have HN : Hid (nl = l.length) := el
  have HBW : Hid (Below w.heap.size w W) := bW
  have HW : Hid _ := hW
  rw [hW] at kA
  clear hl el hbox hW bW zW
  go_enter Try.func8, Try.ntmps8
  go_wp2_with fail
  refine kA.mono ?_
  rintro e w1 ⟨rfl, d1⟩
  rw [← HW.out] at d1
  have HD1 : Hid (Below W.heap.size W w1) := d1
  have FIN : Aside (∀ w5, Below W.heap.size W w5 → Below w.heap.size w w5) := fun w5 h5 => HBW.out.trans (h5.mono HBW.out.size)
  clear kA d1
  by_cases g1 : (100 : Int) < (nl : Int)
  · go_wp2_with fail
    go_ret
    exact ⟨rfl, FIN.out _ HD1.out⟩
  · have ll : l.length ≤ 100 := by have := HN.out; omega
    have HLE : Hid (l.length ≤ 100) := ll
    clear ll
    -- b
    have k2 := bag_any w1 _ l (RdsF.below HL.out HD1.out) (by have := HLE.out; omega)
    go_wp2_with fail
    refine k2.mono ?_
    rintro e w2 ⟨vb, rfl, lb, ob, hlb, ib, b2⟩
    have D2 : Below W.heap.size W w2 := HD1.out.trans (b2.mono HD1.out.size)
    obtain ⟨pb, nb, cb, rfl⟩ := ob.ok.sl
    -- was
    have k3 := bag_any w2 _ l (RdsF.below HL.out D2) (by have := HLE.out; omega)
    have HOB : Hid (OwnM w2 w1.heap.size (.slice pb nb cb) lb ∧ lb.length ≤ l.length ∧ IsBag (ones l) (rows lb)) := ⟨ob, hlb, ib⟩
    have hs12 : w1.heap.size ≤ w2.heap.size := b2.size
    clear k2 b2 ob hlb ib
    go_wp2_with fail
    refine k3.mono ?_
    rintro e w3 ⟨vw, rfl, lw, ow, hlw, iw, b3⟩
    have D3 : Below W.heap.size W w3 := D2.trans (b3.mono D2.size)
    obtain ⟨pw, nw, cw, rfl⟩ := ow.ok.sl
    have HOW : Hid (OwnM w3 w2.heap.size (.slice pw nw cw) lw ∧ IsBag (ones l) (rows lw)) := ⟨ow, iw⟩
    have HB3 : Hid (Below w2.heap.size w2 w3) := b3
    have ob3 := HOB.out.1.below b3
    have k4 := within_any w3 _ lb F T ob3.ok (by have := HLE.out; have := HOB.out.2.1; omega)
    obtain ⟨x0, x1⟩ := HBX.out w3 D3
    have HD3 : Hid (Below W.heap.size W w3) := D3
    clear k3 b3 D2 D3 ow hlw iw ob3
    go_wp2_with fail
    refine k4.mono ?_
    rintro e w4 ⟨vc, rfl, lc, oc, -, -, b4⟩
    obtain ⟨pc, nc, cc, rfl⟩ := oc.ok.sl
    have HB4 : Hid (Below w3.heap.size w3 w4) := b4
    have HOC : Hid (OwnM w4 w3.heap.size (.slice pc nc cc) lc) := oc
    have ob4 := (HOB.out.1.below HB3.out).below b4
    have k5 := join_any w4 _ _ lb [] ob4.ok (RdsM.nil _) (by have := HLE.out; have := HOB.out.2.1; simp only [List.length_nil]; omega)
    clear k4 b4 oc ob4 x0 x1
    go_wp2_with fail
    refine k5.mono ?_
    rintro e w5 ⟨vd, rfl, ld, od, -, -, b5⟩
    obtain ⟨pd, nd, cd, rfl⟩ := od.ok.sl
    have HB5 : Hid (Below w4.heap.size w4 w5) := b5
    have sc := (Shp.of_own HOC.out (Nat.le_refl _)).below b5
    have sd : Shp w5 w4.heap.size w5.heap.size (.slice pd nd cd) (ld.map fun e => (e.f.dv, e.f.mv)) := Shp.of_own od (Nat.le_refl _)
    have k6 := spoil_any w5 _ _ _ _ sc
    have HSD : Hid _ := sd
    clear k5 b5 od sc sd
    go_wp2_with fail
    refine k6.mono ?_
    rintro e w6 ⟨rfl, wr6⟩
    have HW6 : Hid (Wrote w3.heap.size w4.heap.size w5 w6) := wr6
    have k7 := spoil_any w6 _ _ _ _ (wr6.shp HSD.out (Nat.le_refl _))
    clear k6 wr6
    go_wp2_with fail
    refine k7.mono ?_
    rintro e w7 ⟨rfl, wr7⟩
    -- from w3 to w7 nothing below w3's memory has changed
    have B37 : Below w3.heap.size w3 w7 := by
      have h1 := HB4.out.size
      have h2 := HB4.out.trans (HB5.out.mono h1)
      exact (h2.trans HW6.out.bel).trans (wr7.bel.mono h1)
    have ob7 := (HOB.out.1.below HB3.out).below B37
    have ow7 := HOW.out.1.below B37
    have hrw : rows lb = rows lw := HOB.out.2.2.uniq HOW.out.2 fun _ => rfl
    have k8 := is_any w7 _ _ _ _ ob7.ok ow7.ok
    rw [decide_eq_true hrw] at k8
    have HR : Hid (rows lb = rows lw) := hrw
    have HB37 : Hid (Below w3.heap.size w3 w7) := B37
    clear k7 wr7 B37 ob7 ow7 hrw HW6 HB4 HB5 HOC HSD
    go_wp2_with fail
    refine k8.mono ?_
    rintro e w8 ⟨rfl, b8⟩
    have B38 : Below w3.heap.size w3 w8 := HB37.out.trans (b8.mono HB37.out.size)
    have sb := ((Shp.of_own HOB.out.1 (Nat.le_refl _)).below HB3.out).below B38
    have ow8 := HOW.out.1.below B38
    have k9 := spoil_any w8 _ _ _ _ sb
    have HOW8 : Hid _ := ow8
    have HB38 : Hid (Below w3.heap.size w3 w8) := B38
    clear k8 b8 B38 sb ow8 HB37
    go_wp2_with fail
    refine k9.mono ?_
    rintro e w9 ⟨rfl, wr9⟩
    have ow9 : OwnM w9 w2.heap.size (.slice pw nw cw) lw := wr9.ownM HOW8.out (Nat.le_refl _)
    have D9 : Below W.heap.size W w9 := by
      have h1 := HD1.out.size
      have h3 := HD3.out.size
      exact (HD3.out.trans (HB38.out.mono h3)).trans (wr9.bel.mono h1)
    have k10 := bag_any w9 _ l (RdsF.below HL.out D9) (by have := HLE.out; omega)
    have HOW9 : Hid _ := ow9
    have HD9 : Hid (Below W.heap.size W w9) := D9
    clear k9 wr9 ow9 D9 HOW8 HB38
    go_wp2_with fail
    refine k10.mono ?_
    rintro e w10 ⟨v10, rfl, l10, o10, -, i10, b10⟩
    obtain ⟨p10, n10, c10, rfl⟩ := o10.ok.sl
    have k11 := is_any w10 _ _ _ _ o10.ok ((OwnM.below HOW9.out b10).ok)
    rw [decide_eq_true (i10.uniq HOW.out.2 fun _ => rfl)] at k11
    have HD10 : Hid (Below W.heap.size W w10) := HD9.out.trans (b10.mono HD9.out.size)
    clear k10 o10 i10 b10
    go_wp2_with fail
    refine k11.mono ?_
    rintro e w11 ⟨rfl, b11⟩
    go_wp2_with fail
    go_ret
    exact ⟨rfl, FIN.out _ (HD10.out.trans (b11.mono HD10.out.size))⟩
end Go.Proofs.Ytgdeongeonhlpaa
