/- Contracts of the library's EqualFunc at rows of facts, and of Same. -/
import Derived.Test.YtgdeongeonhlpaaBag2
namespace Go.Proofs.Ytgdeongeonhlpaa
open Go.RowKit Go.Sort

set_option maxHeartbeats 1600000 in
theorem rowsame_any (w : World) (x y : En) (hx : x.Ok w) (hy : y.Ok w) :
    Calls Try.prog 36 #[.agg #[.int .i64 x.f.t, x.f.dv, x.f.mv, .int .u64 x.n], .agg #[.int .i64 y.f.t, y.f.dv, y.f.mv, .int .u64 y.n]] w fun e w' => e = .returned (.bool (decide (x.row = y.row))) ∧ Grows w w' := by
  obtain ⟨W, hW⟩ : ∃ W, W = (w.alloc (.cells #[.int .i64 x.f.t, x.f.dv, x.f.mv, .int .u64 x.n] 46)).alloc (.cells #[.int .i64 y.f.t, y.f.dv, y.f.mv, .int .u64 y.n] 46) := ⟨_, rfl⟩
  have gW : Grows w W := by rw [hW]; exact (Grows.alloc _ _).trans (Grows.alloc _ _)
  have kc := compare_any W x.f y.f (hx.f.below gW.below) (hy.f.below gW.below)
  unfold Fc.val at kc
  have HG : Hid (Grows w W) := gW
  have HW : Hid _ := hW
  clear hx hy gW
  rw [hW] at kc
  clear hW
  by_cases hn : x.n = y.n
  · have hnb : ((x.n : Int) == (y.n : Int)) = true := by simp [hn]
    by_cases hf : x.f.ft = y.f.ft
    · have hc : (cmpF x.f.ft y.f.ft == 0) = true := by rw [(cmpF_ord.eq _ _).2 hf]; rfl
      have hr : decide (x.row = y.row) = true := decide_eq_true (by unfold En.row; rw [hf, hn])
      rw [hr]
      clear hr hf hn
      generalize cmpF x.f.ft y.f.ft = C at *
      go_enter Try.func36, Try.ntmps36
      go_wp2_with fail
      refine kc.mono ?_
      rintro e w' ⟨rfl, g2⟩
      rw [← HW.out] at g2
      have HG2 : Hid (Grows W w') := g2
      clear g2
      go_wp2_with fail
      go_ret
      exact ⟨rfl, Grows.trans HG.out HG2.out⟩
    · have hc : (cmpF x.f.ft y.f.ft == 0) = false := by simp; exact fun h => hf ((cmpF_ord.eq _ _).1 h)
      have hr : decide (x.row = y.row) = false := decide_eq_false (fun h => hf (Prod.mk.inj h).1)
      rw [hr]
      clear hr hf hn
      generalize cmpF x.f.ft y.f.ft = C at *
      go_enter Try.func36, Try.ntmps36
      go_wp2_with fail
      refine kc.mono ?_
      rintro e w' ⟨rfl, g2⟩
      rw [← HW.out] at g2
      have HG2 : Hid (Grows W w') := g2
      clear g2
      go_wp2_with fail
      go_ret
      exact ⟨rfl, Grows.trans HG.out HG2.out⟩
  · have hnb : ((x.n : Int) == (y.n : Int)) = false := by simp; omega
    have hr : decide (x.row = y.row) = false := decide_eq_false (fun h => hn (Prod.mk.inj h).2)
    rw [hr]
    clear hr hn kc
    go_enter Try.func36, Try.ntmps36
    go_wp2_with fail
    go_ret
    exact ⟨rfl, by rw [← HW.out]; exact HG.out⟩

theorem rows_ext {a b : List En} (hl : a.length = b.length) (h : ∀ j, j < a.length → (a.getD j en0).row = (b.getD j en0).row) : rows a = rows b := by
  unfold rows
  apply List.ext_getElem
  · simp [hl]
  · intro i h1 h2
    simp only [List.length_map] at h1 h2
    have := h i h1
    rw [getD_en a i h1, getD_en b i h2] at this
    simpa using this
theorem rows_ne {a b : List En} {j : Nat} (h1 : j < a.length) (h2 : j < b.length) (h : (a.getD j en0).row ≠ (b.getD j en0).row) : rows a ≠ rows b := fun e => by
  apply h
  rw [getD_en a j h1, getD_en b j h2]
  have : (rows a)[j]? = (rows b)[j]? := by rw [e]
  simpa [rows, h1, h2] using this

set_option maxHeartbeats 4000000 in
theorem equal_any (w : World) (va vb : Value) (a b : List En) (ha : RdsM w va a) (hb : RdsM w vb b) :
    Calls Try.prog 35 #[va, vb, .func (.func 36) #[] #[]] w fun e w' => e = .returned (.bool (decide (rows a = rows b))) ∧ Below w.heap.size w w' := by
  obtain ⟨aa, na, ca, rfl⟩ := ha.sl
  obtain ⟨ab, nb, cb, rfl⟩ := hb.sl
  obtain ⟨hna, a1, a2⟩ := ha.len
  obtain ⟨hnb, b1, b2⟩ := hb.len
  unfold maxLen at a2 b2
  have HA : Hid (RdsM w (.slice aa na ca) a) := ha
  have HB : Hid (RdsM w (.slice ab nb cb) b) := hb
  have HN : Hid (na = a.length ∧ nb = b.length) := ⟨hna, hnb⟩
  clear ha hb hna hnb
  by_cases hl : na = nb
  · have hlb : ((na : Int) != (nb : Int)) = false := by simp [hl]
    subst hl
    clear hlb
    have hlb : ((na : Int) != (na : Int)) = false := by simp
    go_enter Try.func35, Try.ntmps35
    go_wp2_with fail
    go_loopg [17] na (fun kx vi wr => ∃ i : Nat, vi = .int .i64 i ∧ i ≤ na ∧ na - i ≤ kx ∧ Hid (∀ j, j < i → (a.getD j en0).row = (b.getD j en0).row) ∧ Below w.heap.size w wr)
    case atStart => exact ⟨0, rfl, by omega, Nat.le_refl _, fun j hj => by omega, Below.refl _ _⟩
    case round =>
      obtain ⟨i, rfl, hi, hkx, HI, hbel⟩ := hrel
      by_cases hlt : i < na
      · have hltz : (i : Int) < (na : Int) := by omega
        have hia : i < a.length := by have := HN.out; omega
        have hib : i < b.length := by have := HN.out; omega
        have ra := RdsM.below HA.out hbel
        have rb := RdsM.below HB.out hbel
        obtain ⟨-, -, -, p1, o1, rfl, c1⟩ := ra.at (by omega)
        obtain ⟨-, -, -, p2, o2, rfl, c2⟩ := rb.at (by omega)
        obtain ⟨x0, x1, x2, x3⟩ := c1 i hia
        obtain ⟨y0, y1, y2, y3⟩ := c2 i hib
        have ox := ra.ok a[i] (List.getElem_mem hia)
        have oy := rb.ok b[i] (List.getElem_mem hib)
        have HX : Hid (a.getD i en0 = a[i] ∧ b.getD i en0 = b[i]) := ⟨getD_en a i hia, getD_en b i hib⟩
        generalize a[i] = x at *
        generalize b[i] = y at *
        obtain ⟨aD, nD, cD, hD⟩ := ox.f.rd.sl
        obtain ⟨aM, nM, cM, hM⟩ := ox.f.rm.sl
        obtain ⟨aE, nE, cE, hE⟩ := oy.f.rd.sl
        obtain ⟨aG, nG, cG, hG⟩ := oy.f.rm.sl
        obtain ⟨W, hW⟩ : ∃ W, W = (wr.alloc (.cells #[.int .i64 x.f.t, x.f.dv, x.f.mv, .int .u64 x.n] 46)).alloc (.cells #[.int .i64 y.f.t, y.f.dv, y.f.mv, .int .u64 y.n] 46) := ⟨_, rfl⟩
        have bW : Below wr.heap.size wr W := by rw [hW]; exact ((Below.refl _ _).alloc (Nat.le_refl _) _).alloc (by simp) _
        have kc := rowsame_any W x y (ox.below bW) (oy.below bW)
        have HBW : Hid (Below wr.heap.size wr W) := bW
        have HW : Hid _ := hW
        rw [hW] at kc
        rw [hD] at x1 kc
        rw [hM] at x2 kc
        rw [hE] at y1 kc
        rw [hG] at y2 kc
        rw [hD, hM, hE, hG] at HW
        obtain ⟨C, hC⟩ : ∃ C, C = decide (x.row = y.row) := ⟨_, rfl⟩
        rw [← hC] at kc
        have HC : Hid (C = decide (x.row = y.row)) := hC
        clear hC hW bW hD hM hE hG c1 c2 ra rb ox oy
        generalize x.f.t = tx at *
        generalize y.f.t = ty at *
        generalize x.n = nx at *
        generalize y.n = ny at *
        have z0 := cell_alloc_sl (.cells #[.int .i64 tx, .slice aD nD cD, .slice aM nM cM, .int .u64 nx] 46) y0
        have z1 := cell_alloc_sl (.cells #[.int .i64 tx, .slice aD nD cD, .slice aM nM cM, .int .u64 nx] 46) y1
        have z2 := cell_alloc_sl (.cells #[.int .i64 tx, .slice aD nD cD, .slice aM nM cM, .int .u64 nx] 46) y2
        have z3 := cell_alloc_sl (.cells #[.int .i64 tx, .slice aD nD cD, .slice aM nM cM, .int .u64 nx] 46) y3
        clear y0 y1 y2 y3
        cases C with
        | true =>
          go_wp2_with fail
          refine kc.mono ?_
          rintro e w5 ⟨rfl, g5⟩
          have g5' : Grows W w5 := by rw [HW.out]; exact g5
          have HG5 : Hid (Grows W w5) := g5'
          clear g5 g5' kc
          go_wp2_with fail
          go_roundg (na - (i + 1))
          case measure => omega
          case rel =>
            refine ⟨i + 1, by go_num, by omega, Nat.le_refl _, fun j hj => ?_, hbel.trans ((HBW.out.trans (Grows.below HG5.out |>.mono HBW.out.size)).mono hbel.size)⟩
            by_cases hji : j = i
            · subst hji
              rw [HX.out.1, HX.out.2]
              exact of_decide_eq_true HC.out.symm
            · exact HI.out j (by omega)
        | false =>
          go_wp2_with fail
          refine kc.mono ?_
          rintro e w5 ⟨rfl, g5⟩
          have g5' : Grows W w5 := by rw [HW.out]; exact g5
          have HG5 : Hid (Grows W w5) := g5'
          clear g5 g5' kc
          go_wp2_with fail
          go_ret
          refine ⟨?_, hbel.trans ((HBW.out.trans (Grows.below HG5.out |>.mono HBW.out.size)).mono hbel.size)⟩
          rw [decide_eq_false (rows_ne hia hib (by rw [HX.out.1, HX.out.2]; exact of_decide_eq_false HC.out.symm))]
          rfl
      · have hltz : ¬ (i : Int) < (na : Int) := by omega
        go_wp2_with fail
        go_ret
        refine ⟨?_, hbel⟩
        rw [decide_eq_true (rows_ext (by have := HN.out; omega) fun j hj => HI.out j (by have := HN.out; omega))]
        rfl
  · have hlb : ((na : Int) != (nb : Int)) = true := by simp; omega
    go_enter Try.func35, Try.ntmps35
    go_wp2_with fail
    go_ret
    refine ⟨?_, Below.refl _ _⟩
    rw [decide_eq_false fun e => by
      have : (rows a).length = (rows b).length := by rw [e]
      rw [rows_length, rows_length] at this
      exact hl (by have := HN.out; omega)]
    rfl

/-- Two rows of rows stand for one bag. -/
def OneBag (a b : List Row) : Prop := ∀ f, cntR a f % two64 = cntR b f % two64
set_option maxHeartbeats 1600000 in
theorem same_any (w : World) (va vb : Value) (a b : List En) (ha : RdsM w va a) (hb : RdsM w vb b) (hba : a.length * 64 ≤ 160842843834660) (hbb : b.length * 64 ≤ 160842843834660) :
    Calls Try.prog 21 #[va, vb] w fun e w' => ∃ B, e = .returned (.bool B) ∧ (B = true ↔ OneBag (rows a) (rows b)) ∧ Below w.heap.size w w' := by
  have k1 := bagOf_any w va a ha hba
  obtain ⟨aa, na, ca, rfl⟩ := ha.sl
  obtain ⟨ab, nb, cb, rfl⟩ := hb.sl
  go_enter Try.func21, Try.ntmps21
  go_wp2_with fail
  refine k1.mono ?_
  rintro e w1 ⟨v1, rfl, l1, o1, _, i1, b1⟩
  have k2 := bagOf_any w1 _ b (hb.below b1) hbb
  clear k1
  go_wp2_with fail
  refine k2.mono ?_
  rintro e w2 ⟨v2, rfl, l2, o2, _, i2, b2⟩
  have k3 := equal_any w2 v1 v2 l1 l2 (o1.below b2).ok o2.ok
  clear k2
  go_wp2_with fail
  refine k3.mono ?_
  rintro e w3 ⟨rfl, b3⟩
  clear k3
  go_wp2_with fail
  go_ret
  refine ⟨_, rfl, ?_, b1.trans ((b2.trans (b3.mono b2.size)).mono b1.size)⟩
  rw [decide_eq_true_iff]
  constructor
  · intro e f
    rw [← i1.cnt, ← i2.cnt, e]
  · exact fun h => i1.uniq i2 h
end Go.Proofs.Ytgdeongeonhlpaa
