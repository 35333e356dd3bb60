/- The contract of the reference's Is. -/
import Derived.Test.YtgdeongeonhlpaaSame
import Derived.Test.YtgdeongeonhlpaaRCmp
import Derived.BigQuiet
namespace Go.Proofs.Ytgdeongeonhlpaa
open Go.RowKit Go.Sort

set_option maxRecDepth 100000 in
set_option maxHeartbeats 4000000 in
theorem is_any (w : World) (va vb : Value) (a b : List En) (ha : RdsM w va a) (hb : RdsM w vb b) :
    Calls Try.prog 16 #[va, vb] w fun e w' => e = .returned (.bool (decide (rows a = rows b))) ∧ Below w.heap.size w w' := by
  obtain ⟨aa, na, ca, rfl⟩ := ha.sl
  obtain ⟨ab, nb, cb, rfl⟩ := hb.sl
  obtain ⟨hna, a1, a2⟩ := ha.len
  obtain ⟨hnb, b1, b2⟩ := hb.len
  unfold maxLen at a2 b2
  have HA : Hid (RdsM w (.slice aa na ca) a) := ha
  have HB : Hid (RdsM w (.slice ab nb cb) b) := hb
  have HN : Hid (na = a.length ∧ nb = b.length) := ⟨hna, hnb⟩
  have mixed := slay.mixed
  clear ha hb hna hnb
  by_cases hl : na = nb
  · have hlb : ((na : Int) != (nb : Int)) = false := by simp [hl]
    subst hl
    clear hlb
    have hlb : ((na : Int) != (na : Int)) = false := by simp
    go_enter Try.func16, Try.ntmps16
    go_wp2_with fail
    go_loopg [5] na (fun kx vi wr => ∃ i : Nat, vi = .int .i64 i ∧ i ≤ na ∧ na - i ≤ kx ∧ Hid (∀ j, j < i → (a.getD j en0).row = (b.getD j en0).row) ∧ Hid (Below w.heap.size w wr))
    case atStart => exact ⟨0, rfl, by omega, Nat.le_refl _, fun j hj => by omega, Below.refl _ _⟩
    case round =>
      obtain ⟨i, rfl, hi, hkx, HI, HBel⟩ := hrel
      by_cases hlt : i < na
      · have hltz : (i : Int) < (na : Int) := by omega
        have hia : i < a.length := by have := HN.out; omega
        have hib : i < b.length := by have := HN.out; omega
        have ra := RdsM.below HA.out HBel.out
        have rb := RdsM.below HB.out HBel.out
        obtain ⟨-, -, -, p1, o1, rfl, c1⟩ := ra.at (by omega)
        obtain ⟨-, -, -, p2, o2, rfl, c2⟩ := rb.at (by omega)
        obtain ⟨x0, x1, x2, x3⟩ := c1 i hia
        obtain ⟨y0, y1, y2, y3⟩ := c2 i hib
        have ox := ra.ok a[i] (List.getElem_mem hia)
        have oy := rb.ok b[i] (List.getElem_mem hib)
        have HX : Hid (a.getD i en0 = a[i] ∧ b.getD i en0 = b[i]) := ⟨getD_en a i hia, getD_en b i hib⟩
        generalize a[i] = x at *
        generalize b[i] = y at *
        have kc : ∀ nq os, Calls Try.prog 15 #[.agg #[.int .i64 x.f.t, x.f.dv, x.f.mv], .agg #[.int .i64 y.f.t, y.f.dv, y.f.mv]] (grow (wr.drewN nq) os) fun e w' => e = .returned (.int .i64 (cmpF x.f.ft y.f.ft)) ∧ ∃ q os', w' = grow ((grow (wr.drewN nq) os).drewN q) os' := fun nq os =>
          refcmp_any (grow (wr.drewN nq) os) x.f y.f (ox.f.below (below_grown_sl _ wr nq os (Nat.le_refl _))) (oy.f.below (below_grown_sl _ wr nq os (Nat.le_refl _)))
        have x0' := fun nq os => cell_gr x0 nq os
        have x1' := fun nq os => cell_gr x1 nq os
        have x2' := fun nq os => cell_gr x2 nq os
        have x3' := fun nq os => cell_gr x3 nq os
        have y0' := fun nq os => cell_gr y0 nq os
        have y1' := fun nq os => cell_gr y1 nq os
        have y2' := fun nq os => cell_gr y2 nq os
        have y3' := fun nq os => cell_gr y3 nq os
        have HR : Hid (x.row = y.row ↔ cmpF x.f.ft y.f.ft = 0 ∧ x.n = y.n) := by
          show _ ↔ _
          rw [cmpF_ord.eq]
          unfold En.row
          constructor
          · intro h; exact ⟨(Prod.mk.inj h).1, (Prod.mk.inj h).2⟩
          · rintro ⟨h1, h2⟩; rw [h1, h2]
        have HXY : Hid (_ ∧ _) := ⟨x3, y3⟩
        clear x0 x1 x2 x3 y0 y1 y2 y3 c1 c2 ra rb ox oy
        generalize cmpF x.f.ft y.f.ft = C at *
        generalize x.f.t = tx at *
        generalize x.f.dv = dx at *
        generalize x.f.mv = mx at *
        generalize y.f.t = ty at *
        generalize y.f.dv = dy at *
        generalize y.f.mv = my at *
        generalize x.n = nx at *
        generalize y.n = ny at *
        by_cases hn : nx = ny
        · have hnb : ((nx : Int) != (ny : Int)) = false := by simp [hn]
          by_cases hC : C = 0
          · have hCb : (C != 0) = false := by simp [hC]
            have HE : Hid (x.row = y.row) := HR.out.2 ⟨hC, hn⟩
            clear hC hn
            go_wp2_with fail
            go_quiet_grown (first | (go_at_call 15; refine Calls.grown_of (kc _ _)))
            go_wp2_with fail
            go_roundg (na - (i + 1))
            case measure => omega
            case rel =>
              refine ⟨i + 1, by go_num, by omega, Nat.le_refl _, fun j hj => ?_, HBel.out.trans (below_grown_sl _ wr nq osq HBel.out.size)⟩
              by_cases hji : j = i
              · subst hji
                rw [HX.out.1, HX.out.2]
                exact HE.out
              · exact HI.out j (by omega)
          · have hCb : (C != 0) = true := by simp [hC]
            have HE : Hid (¬ x.row = y.row) := fun h => hC (HR.out.1 h).1
            clear hC hn
            go_wp2_with fail
            go_quiet_grown (first | (go_at_call 15; refine Calls.grown_of (kc _ _)))
            go_wp2_with fail
            go_ret
            refine ⟨?_, HBel.out.trans (below_grown_sl _ wr nq osq HBel.out.size)⟩
            rw [decide_eq_false (rows_ne hia hib (by rw [HX.out.1, HX.out.2]; exact HE.out))]
            rfl
        · have hnb : ((nx : Int) != (ny : Int)) = true := by simp; omega
          have HE : Hid (¬ x.row = y.row) := fun h => hn (HR.out.1 h).2
          clear hn kc x0' x1' x2' x3' y0' y1' y2' y3'
          obtain ⟨x3, y3⟩ := HXY.out
          go_wp2_with fail
          go_quiet (fail)
          go_wp2_with fail
          go_ret
          refine ⟨?_, below_dN HBel.out nq⟩
          rw [decide_eq_false (rows_ne hia hib (by rw [HX.out.1, HX.out.2]; exact HE.out))]
          rfl
      · have hltz : ¬ (i : Int) < (na : Int) := by omega
        go_wp2_with fail
        go_ret
        refine ⟨?_, HBel.out⟩
        rw [decide_eq_true (rows_ext (by have := HN.out; omega) fun j hj => HI.out j (by have := HN.out; omega))]
        rfl
  · have hlb : ((na : Int) != (nb : Int)) = true := by simp; omega
    go_enter Try.func16, Try.ntmps16
    go_wp2_with fail
    go_ret
    refine ⟨?_, Below.refl _ _⟩
    rw [decide_eq_false fun e => by
      have : (rows a).length = (rows b).length := by rw [e]
      rw [rows_length, rows_length] at this
      exact hl (by have := HN.out; omega)]
    rfl
end Go.Proofs.Ytgdeongeonhlpaa
