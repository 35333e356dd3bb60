/- The walk of FactSpans. -/
import Derived.Test.YtgdeongeonhlpaaBags0
namespace Go.Proofs.Ytgdeongeonhlpaa
open Go.RowKit Go.Sort

/-- fact.Within and the reference's, held against each other. -/
theorem inL_eq {l l' : List En} {F T : Int} (h : ∀ e ∈ l, e.n < two64) (hb : IsBag (rows (l.filter fun e => inS F T e.f.t)) (rows l')) : rows l' = rows (inL F T true l) := by
  have h2 := inL_bag F T true l h
  have e : (l.filter fun e => inS F T e.f.t == true) = l.filter fun e => inS F T e.f.t := by
    apply List.filter_congr; intro x _; simp
  rw [e] at h2
  exact hb.uniq h2 fun _ => rfl
theorem outL_eq {l l' : List En} {F T : Int} (h : ∀ e ∈ l, e.n < two64) (hb : IsBag (rows (l.filter fun e => !inS F T e.f.t)) (rows l')) : rows l' = rows (inL F T false l) := by
  have h2 := inL_bag F T false l h
  have e : (l.filter fun e => inS F T e.f.t == false) = l.filter fun e => !inS F T e.f.t := by
    apply List.filter_congr; intro x _; cases inS F T x.f.t <;> rfl
  rw [e] at h2
  exact hb.uniq h2 fun _ => rfl

/-- A row of rows, by its plain rows. -/
def Rd (w : World) (v : Value) (R : List Row) : Prop := ∃ l, RdsM w v l ∧ rows l = R
theorem Rd.below {w w' : World} {v : Value} {R : List Row} (h : Rd w v R) (hb : Below w.heap.size w w') : Rd w' v R := by
  obtain ⟨l, h1, h2⟩ := h
  exact ⟨l, h1.below hb, h2⟩
theorem is_rd (w : World) (va vb : Value) (R : List Row) (ha : Rd w va R) (hb : Rd w vb R) :
    Calls Try.prog 16 #[va, vb] w fun e w' => e = .returned (.bool true) ∧ Below w.heap.size w w' := by
  obtain ⟨a, h1, h2⟩ := ha
  obtain ⟨b, h3, h4⟩ := hb
  have k := is_any w va vb a b h1 h3
  rw [decide_eq_true (h2.trans h4.symm)] at k
  exact k

set_option maxRecDepth 100000 in
set_option maxHeartbeats 8000000 in
theorem spans_walk (w : World) (va : Value) (a : List En) (F T : Int) (ha : RdsM w va a) :
    Calls Try.prog 5 #[va, .agg #[.int .i64 F, .int .i64 T]] w fun e w' => e = .returned (.bool true) ∧ Below w.heap.size w w' := by
  obtain ⟨aa, na, ca, rfl⟩ := ha.sl
  obtain ⟨ea, a1, a2⟩ := ha.len
  unfold maxLen at a2
  obtain ⟨W, hW⟩ : ∃ W, W = w.alloc (.cells #[.int .i64 F, .int .i64 T] 43) := ⟨_, rfl⟩
  have bW : Below w.heap.size w W := by rw [hW]; exact (Below.refl _ _).alloc (Nat.le_refl _) _
  have zW : w.heap.size < W.heap.size := by rw [hW]; simp
  have hbox : ∀ w5, Below W.heap.size W w5 → w5.cell? ⟨w.heap.size, 0, none⟩ = some (.int .i64 F) ∧ w5.cell? ⟨w.heap.size, 1, none⟩ = some (.int .i64 T) := fun w5 h5 => by
    refine ⟨?_, ?_⟩ <;> (rw [h5.cell (by exact zW), hW]; simp)
  have HBX : Aside _ := hbox
  have kA := awake_any W
  have HA : Hid (RdsM W (.slice aa na ca) a) := ha.below bW
  have HN : Hid (na = a.length) := ea
  have HBW : Hid (Below w.heap.size w W) := bW
  have HW : Hid _ := hW
  have mixed := slay.mixed
  rw [hW] at kA
  clear ha ea hbox hW bW zW
  go_enter Try.func5, Try.ntmps5
  go_wp2_with fail
  refine kA.mono ?_
  rintro e w1 ⟨rfl, d1⟩
  rw [← HW.out] at d1
  have HD1 : Hid (Below W.heap.size W w1) := d1
  have FIN : Aside (∀ w5, Below W.heap.size W w5 → Below w.heap.size w w5) := fun w5 h5 => HBW.out.trans (h5.mono HBW.out.size)
  clear kA d1
  by_cases g1 : (300 : Int) < (na : Int)
  · go_wp2_with fail
    go_ret
    exact ⟨rfl, FIN.out _ HD1.out⟩
  · have la : a.length ≤ 300 := by have := HN.out; omega
    have HLE : Hid (a.length ≤ 300) := la
    clear la
    go_wp2_with fail
    go_loopg [6, 7] na (fun kx v6 v7 wr => ∃ i N : Nat, v7 = .int .i64 i ∧ v6 = .int .u64 N ∧ i ≤ na ∧ na - i ≤ kx ∧ N < 18446744073709551616 ∧ Hid (N = totR (rows (a.take i)) % two64) ∧ Hid (Below W.heap.size W wr))
    case atStart => exact ⟨0, 0, rfl, rfl, by omega, Nat.le_refl _, by omega, rfl, HD1⟩
    case round =>
      obtain ⟨i, N, rfl, rfl, hi, hkx, hN, HT, HB⟩ := hrel
      by_cases hlt : i < na
      · have hltz : (i : Int) < (na : Int) := by omega
        have hil : i < a.length := by have := HN.out; omega
        obtain ⟨-, -, -, b, off, rfl, hcell⟩ := (RdsM.below HA.out HB.out).at (by omega)
        obtain ⟨q0, q1, q2, q3⟩ := hcell i hil
        have hnn := (HA.out.ok a[i] (List.getElem_mem hil)).n
        have hst := tot_take a i hil
        generalize a[i].n = M at q3 hnn hst
        have hwa := wrap_add N M
        obtain ⟨S, hS⟩ : ∃ S, S = (N + M) % two64 := ⟨_, rfl⟩
        rw [← hS] at hwa
        have hSl : S < 18446744073709551616 := by rw [hS]; exact Nat.mod_lt _ (by decide)
        unfold two64 at hnn
        have HS : Hid _ := hst
        have HSS : Hid _ := hS
        clear hst hcell q0 q1 q2 hS
        go_wp2_with fail
        go_roundg (na - (i + 1))
        case measure => omega
        case rel =>
          refine ⟨i + 1, S, by go_num, rfl, by omega, Nat.le_refl _, hSl, ?_, HB⟩
          show _ = _
          rw [HS.out, HSS.out, HT.out, Nat.mod_add_mod]
      · have hltz : ¬ (i : Int) < (na : Int) := by omega
        have HV : Hid (Below W.heap.size W wr) := HB
        have HTT : Hid (N = totM (rows a)) := by
          have := HT.out
          rw [List.take_of_length_le (by have := HN.out; omega)] at this
          exact this
        clear HB HT
        have bx : ∀ w5, Below wr.heap.size wr w5 → w5.cell? ⟨w.heap.size, 0, none⟩ = some (.int .i64 F) ∧ w5.cell? ⟨w.heap.size, 1, none⟩ = some (.int .i64 T) := fun w5 h5 => HBX.out w5 (HV.out.trans (h5.mono HV.out.size))
        have kW : ∀ w5, Below wr.heap.size wr w5 → Calls Try.prog 22 #[.slice aa na ca, .agg #[.int .i64 F, .int .i64 T]] w5 fun e w' => ∃ p n c, e = .returned (.slice p n c) ∧ Rd w' (.slice p n c) (rows (inL F T true a)) ∧ Below wr.heap.size wr w' ∧ Below w5.heap.size w5 w' := fun w5 h5 => by
          have ra := RdsM.below (RdsM.below HA.out HV.out) h5
          refine (within_any w5 _ a F T ra (by have := HLE.out; omega)).mono ?_
          rintro e w' ⟨v', rfl, l', o', -, i', b'⟩
          have m' := o'.ok
          obtain ⟨p, n, c, rfl⟩ := m'.sl
          exact ⟨p, n, c, rfl, ⟨l', m', inL_eq ra.few i'⟩, h5.trans (b'.mono h5.size), b'⟩
        have kR : ∀ w5, Below wr.heap.size wr w5 → Calls Try.prog 23 #[.slice aa na ca, .agg #[.int .i64 F, .int .i64 T], .bool true] w5 fun e w' => ∃ p n c, e = .returned (.slice p n c) ∧ Rd w' (.slice p n c) (rows (inL F T true a)) ∧ Below wr.heap.size wr w' ∧ Below w5.heap.size w5 w' := fun w5 h5 => by
          have ra := RdsM.below (RdsM.below HA.out HV.out) h5
          refine (refin_any w5 _ a F T true ra (by have := HLE.out; omega)).mono ?_
          rintro e w' ⟨v', rfl, m', b'⟩
          obtain ⟨p, n, c, rfl⟩ := m'.sl
          exact ⟨p, n, c, rfl, ⟨_, m', rfl⟩, h5.trans (b'.mono h5.size), b'⟩
        generalize rows (inL F T true a) = R at kW kR
        have b0 : Below wr.heap.size wr wr.drew := below_dN (Below.refl _ _) 1
        go_upto_region 11 with fail
        go_cut [8] (fun t wx => t = .bool true ∧ Below wr.heap.size wr wx)
        case first =>
          obtain ⟨z0, z1⟩ := bx _ b0
          go_wp2_with fail
          go_region_with (first
            | (go_at_call 22; with_reducible refine (kW _ (by assumption)).mono ?_; rintro e2 w2 ⟨a2, n2, c2, rfl, r2, d2, s2⟩; obtain ⟨x0, x1⟩ := bx _ d2)
            | (go_at_call 23; with_reducible refine (kR _ (by assumption)).mono ?_; rintro e3 w3 ⟨a3, n3, c3, rfl, r3, d3, s3⟩; obtain ⟨y0, y1⟩ := bx _ d3)
            | (go_at_call 16; (first | with_reducible refine (is_rd _ _ _ _ (r2.below s3) r3).mono ?_ | with_reducible refine (is_rd _ _ _ _ r2 (r3.below s2)).mono ?_); rintro e4 w4 ⟨rfl, s4⟩))
          all_goals
            go_wp2_with fail
            go_meet
            case rel => first | exact ⟨rfl, d3.trans (s4.mono d3.size)⟩ | exact ⟨rfl, d2.trans (s4.mono d2.size)⟩
        rename World => V2
        obtain ⟨rfl, dV⟩ := hcut
        have HV2 : Hid (Below W.heap.size W V2) := HV.out.trans (dV.mono HV.out.size)
        clear dV bx kW kR b0 HV R
        have HV := HV2
        clear HV2
        have bx : ∀ w5, Below V2.heap.size V2 w5 → w5.cell? ⟨w.heap.size, 0, none⟩ = some (.int .i64 F) ∧ w5.cell? ⟨w.heap.size, 1, none⟩ = some (.int .i64 T) := fun w5 h5 => HBX.out w5 (HV.out.trans (h5.mono HV.out.size))
        have kW : ∀ w5, Below V2.heap.size V2 w5 → Calls Try.prog 24 #[.slice aa na ca, .agg #[.int .i64 F, .int .i64 T]] w5 fun e w' => ∃ p n c, e = .returned (.slice p n c) ∧ Rd w' (.slice p n c) (rows (inL F T false a)) ∧ Below V2.heap.size V2 w' ∧ Below w5.heap.size w5 w' := fun w5 h5 => by
          have ra := RdsM.below (RdsM.below HA.out HV.out) h5
          refine (without_any w5 _ a F T ra (by have := HLE.out; omega)).mono ?_
          rintro e w' ⟨v', rfl, l', o', -, i', b'⟩
          have m' := o'.ok
          obtain ⟨p, n, c, rfl⟩ := m'.sl
          exact ⟨p, n, c, rfl, ⟨l', m', outL_eq ra.few i'⟩, h5.trans (b'.mono h5.size), b'⟩
        have kR : ∀ w5, Below V2.heap.size V2 w5 → Calls Try.prog 23 #[.slice aa na ca, .agg #[.int .i64 F, .int .i64 T], .bool false] w5 fun e w' => ∃ p n c, e = .returned (.slice p n c) ∧ Rd w' (.slice p n c) (rows (inL F T false a)) ∧ Below V2.heap.size V2 w' ∧ Below w5.heap.size w5 w' := fun w5 h5 => by
          have ra := RdsM.below (RdsM.below HA.out HV.out) h5
          refine (refin_any w5 _ a F T false ra (by have := HLE.out; omega)).mono ?_
          rintro e w' ⟨v', rfl, m', b'⟩
          obtain ⟨p, n, c, rfl⟩ := m'.sl
          exact ⟨p, n, c, rfl, ⟨_, m', rfl⟩, h5.trans (b'.mono h5.size), b'⟩
        generalize rows (inL F T false a) = R at kW kR
        have b0 : Below V2.heap.size V2 V2.drew := below_dN (Below.refl _ _) 1
        go_upto_region 12 with fail
        go_cut [9] (fun t wx => t = .bool true ∧ Below V2.heap.size V2 wx)
        case first =>
          obtain ⟨z0, z1⟩ := bx _ b0
          go_wp2_with fail
          go_region_with (first
            | (go_at_call 24; with_reducible refine (kW _ (by assumption)).mono ?_; rintro e2 w2 ⟨a2, n2, c2, rfl, r2, d2, s2⟩; obtain ⟨x0, x1⟩ := bx _ d2)
            | (go_at_call 23; with_reducible refine (kR _ (by assumption)).mono ?_; rintro e3 w3 ⟨a3, n3, c3, rfl, r3, d3, s3⟩; obtain ⟨y0, y1⟩ := bx _ d3)
            | (go_at_call 16; (first | with_reducible refine (is_rd _ _ _ _ (r2.below s3) r3).mono ?_ | with_reducible refine (is_rd _ _ _ _ r2 (r3.below s2)).mono ?_); rintro e4 w4 ⟨rfl, s4⟩))
          all_goals
            go_wp2_with fail
            go_meet
            case rel => first | exact ⟨rfl, d3.trans (s4.mono d3.size)⟩ | exact ⟨rfl, d2.trans (s4.mono d2.size)⟩
        rename World => V3
        obtain ⟨rfl, dV⟩ := hcut
        have HV3 : Hid (Below W.heap.size W V3) := HV.out.trans (dV.mono HV.out.size)
        clear dV bx kW kR b0 HV R
        have kC := count_any V3 _ a (RdsM.below HA.out HV3.out)
        rw [← HTT.out] at kC
        have hNN : (N == N) = true := by simp
        go_wp2_with fail
        refine kC.mono ?_
        rintro e w9 ⟨rfl, d9⟩
        go_wp2_with fail
        go_ret
        exact ⟨rfl, FIN.out _ (HV3.out.trans (d9.mono HV3.out.size))⟩
end Go.Proofs.Ytgdeongeonhlpaa
