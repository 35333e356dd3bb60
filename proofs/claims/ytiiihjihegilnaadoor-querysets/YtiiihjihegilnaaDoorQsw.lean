/- The walk of QuerySets. -/
import Derived.Test.YtiiihjihegilnaaDoorQaw
namespace Go.Proofs.YtiiihjihegilnaaDoor
open Go.RowKit Go.Sort

def cubA (d : List Int) : List (List Int) := if d.length ≤ 6 then cub d else []
def GivesS (x : List (List Int)) (w : World) (e : Ending) (w' : World) : Prop := ∃ v', e = .returned v' ∧ ∃ l, RdsS w' v' l ∧ snds l = x ∧ Below w.heap.size w w'
theorem cube_all (w : World) (v : Value) (dims : List Int) (h : Rds w v (iv dims)) : Calls Tryd.prog 7 #[v] w (GivesS (cubA dims) w) := by
  unfold cubA
  by_cases hn : dims.length ≤ 6
  · rw [if_pos hn]
    exact (cube_any w v dims h hn).mono fun e w' ⟨v', e1, l, o, s, b⟩ => ⟨v', e1, l, o.rds, s, b⟩
  · rw [if_neg hn]
    exact (cube_many w v dims h hn).mono fun e w' ⟨e1, e2⟩ => ⟨_, e1, [], ⟨RdsK.nil 1 w', fun _ h => by cases h⟩, rfl, by rw [e2]; exact Below.refl _ _⟩
set_option maxHeartbeats 1600000 in
theorem refcube_many (w : World) (v : Value) (dims : List Int) (h : Rds w v (iv dims)) (hn : ¬ dims.length ≤ 6) :
    Calls Tryd.prog 10 #[v] w fun e w' => e = .returned (.slice none 0 0) ∧ w' = w := by
  obtain ⟨ao, n, cap, rfl⟩ := h.sl
  obtain ⟨e0, e1, e2, -⟩ := h.ints
  have hn6z : (6 : Int) < (n : Int) := by omega
  unfold maxLen at e2
  clear h e0 hn
  go_enter Tryd.func10, Tryd.ntmps10
  go_wp2_with fail
  go_ret
  exact ⟨rfl, rfl⟩
theorem refcube_all (w : World) (v : Value) (dims : List Int) (h : Rds w v (iv dims)) : Calls Tryd.prog 10 #[v] w (GivesS (cubA dims) w) := by
  unfold cubA
  by_cases hn : dims.length ≤ 6
  · rw [if_pos hn, cub_eq]
    exact refcube_any w v dims h hn
  · rw [if_neg hn]
    exact (refcube_many w v dims h hn).mono fun e w' ⟨e1, e2⟩ => ⟨_, e1, [], ⟨RdsK.nil 1 w', fun _ h => by cases h⟩, rfl, by rw [e2]; exact Below.refl _ _⟩
/-- Sets whose numbers may have been written over. -/
structure SpS (W w : World) (v : Value) (l : List St) : Prop where
  own : w.ownsRow W.heap.size 22 1 v l.length (l.map (·.1))
  each : ∀ s ∈ l, ∃ xs, w.ownsRow W.heap.size 3 1 s.1 s.2.length xs
  bl : Below W.heap.size W w
theorem SpS.set {W w : World} {v : Value} {l : List St} (h : SpS W w v l) {s : St} (hs : s ∈ l) {g : Nat} (hg : s.1.ownBlock = some g) (o : Nat) (u : Value) : SpS W (w.setCell ⟨g, o, none⟩ u) v l := by
  obtain ⟨xs, hx⟩ := h.each s hs
  refine ⟨ownsRow_setCell_other h.own (fun e => own_ne h.own hx (by decide) g e hg) u, fun t ht => ?_, h.bl.setCell (p := ⟨g, o, none⟩) (World.ownsRow.lt hx g hg).1 u⟩
  obtain ⟨ys, hy⟩ := h.each t ht
  exact own_set_any hy g o u
theorem SpS.at {W w : World} {ao : Option Addr} {n cap : Nat} {l : List St} (h : SpS W w (.slice ao n cap) l) : n = l.length ∧ n ≤ maxLen ∧ (0 < l.length → ∃ b, ao = some ⟨b, 0, none⟩ ∧ ∀ i (hi : i < l.length), w.cell? ⟨b, i, none⟩ = some l[i].1) := by
  obtain ⟨e0, e1, e2, e3, e4, e5⟩ := (RdsK.of_own h.own).cells (by decide)
  refine ⟨e0, by omega, fun hp => ?_⟩
  obtain ⟨g, c, e, _⟩ := own_at h.own hp
  cases e
  refine ⟨g, rfl, fun i hi => ?_⟩
  obtain ⟨b, off, e6, hc⟩ := e4 hp
  cases e6
  have := hc i _ (by rw [List.getElem?_map, List.getElem?_eq_getElem hi]; rfl)
  simpa using this
set_option maxRecDepth 100000 in
set_option maxHeartbeats 8000000 in
theorem sets_walk (w : World) (v : Value) (dims : List Int) (h : Rds w v (iv dims)) (hg : Hnd w) :
    Calls Tryd.prog 3 #[v] w fun e w' => e = .returned (.bool true) ∧ Below w.heap.size w w' := by
  obtain ⟨j0, hj0, hq0, hq1, hq2⟩ := info_parts Tryd.info_int
  obtain ⟨ao, n, cap, rfl⟩ := h.sl
  obtain ⟨e0, e1, e2, -⟩ := h.ints
  have kA := awake_any w hg
  have HH : Hid _ := h
  have HN : Hid (n = dims.length) := e0
  unfold maxLen at e2
  have mixed : Tryd.prog.follows .mixedOrders = true := by kernel_rfl
  clear h hg e0
  go_enter Tryd.func3, Tryd.ntmps3
  go_wp2_with fail
  refine kA.mono ?_
  rintro e w1 ⟨rfl, b1⟩
  have HB1 : Hid (Below w.heap.size w w1) := b1
  clear kA b1
  by_cases hbig : 200 < n
  · have hbz : (200 : Int) < (n : Int) := by omega
    go_wp2_with fail
    go_ret
    exact ⟨rfl, HB1.out⟩
  · have hbz : ¬ (200 : Int) < (n : Int) := by omega
    have hn2 : n ≤ 200 := by omega
    have rk := Rds.k1 (Rds.below HH.out HB1.out)
    rw [← HN.out] at rk
    have HR1 : Hid (RdsK 1 w1 (.slice ao n cap) n (iv dims)) := rk
    have HOO : Aside (∀ u ∈ iv dims, u.oneCell' = true) := iv_one _
    have HON : Hid (w1.ownsRow w1.heap.size 3 1 (.slice none 0 0) 0 []) := World.ownsRow_nil _ _ _ _
    have hza : 0 + n ≤ maxLen := qmax _ (by omega)
    have hzb : ((0 + n) + (0 + n) / 4 + 192) * 8 ≤ 281474976710656 := qby _ _ (by omega) (by omega)
    clear rk hbig
    go_upto_region 8 with (first
      | (at_builtin; refine wpList_appK rfl _ _ 22 rfl w1.heap.size 3 j0 (.int .i64 0) 1 8 Tryd.underlying22 hj0 hq0 hq1 hq2 rfl (by decide) _ _ _ rfl HON.out _ _ _ rfl HR1.out HOO.out hza hzb (Nat.le_refl _) ?_; intro v4 w4 hown4 hgrow4 hnil4))
    rw [Nat.zero_add, List.nil_append] at hown4
    obtain ⟨a4, n4, c4, h4⟩ := own_sl hown4
    subst h4
    have b4 : Below w1.heap.size w1 w4 := (Below.refl _ _).grown hgrow4 (Nat.le_refl _) (fun k hk => by cases hk)
    have HB4 : Hid (Below w.heap.size w w4) := HB1.out.trans (b4.mono HB1.out.size)
    have HW4 : Hid (Rds w4 (.slice a4 n4 c4) (iv dims)) := rds_own1 hown4
    have hn4 : n = n4 := by have := (Rds.ints HW4.out).1; have := HN.out; omega
    subst hn4
    have kR := rollup_any w4 _ dims (Rds.below HH.out HB4.out) (by have := HN.out; omega)
    clear hown4 hgrow4 hnil4 b4 HR1 HON
    go_wp2_with fail
    refine kR.mono ?_
    rintro e w5 ⟨v5, rfl, la, oa, hsa, b5⟩
    obtain ⟨a5, n5, c5, h5⟩ := own_sl oa.own
    subst h5
    have HB5 : Hid (Below w4.heap.size w4 w5) := b5
    have HB05 : Hid (Below w.heap.size w w5) := HB4.out.trans (b5.mono HB4.out.size)
    have kQ := cube_all w5 _ dims (Rds.below HH.out HB05.out)
    unfold GivesS at kQ
    have HA : Hid (OwS w5 w4.heap.size (.slice a5 n5 c5) la ∧ snds la = rol dims) := ⟨oa, hsa⟩
    clear kR oa hsa b5
    go_wp2_with fail
    refine kQ.mono ?_
    rintro e w6 ⟨v6, rfl, lb, rb, hsb, b6⟩
    obtain ⟨a6, n6, c6, h6⟩ := rb.sl
    subst h6
    have hn6 : n6 = (cubA dims).length := by rw [rb.at.1, ← hsb]; simp [snds]
    have HB46 : Hid (Below w4.heap.size w4 w6) := HB5.out.trans (b6.mono HB5.out.size)
    have HA6 : Hid (OwS w6 w4.heap.size (.slice a5 n5 c5) la) := HA.out.1.up b6
    have HRB : Hid (RdsS w6 (.slice a6 n6 c6) lb ∧ snds lb = cubA dims) := ⟨rb, hsb⟩
    have HN6 : Hid (n6 = (cubA dims).length) := hn6
    have kRR := refrollup_any w6 _ dims (Rds.below HW4.out HB46.out) (by have := HN.out; omega)
    clear kQ rb hsb b6 hn6
    go_wp2_with fail
    refine kRR.mono ?_
    rintro e w7 ⟨v7, rfl, lr, rr, hsr, b7⟩
    obtain ⟨a7, n7, c7, h7⟩ := rr.sl
    subst h7
    have kS := sets_any w7 _ _ la lr (HA6.out.up b7).rds rr
    rw [HA.out.2, hsr, decide_eq_true rfl] at kS
    have HB47 : Hid (Below w4.heap.size w4 w7) := HB46.out.trans (b7.mono HB46.out.size)
    have HA7 : Hid (OwS w7 w4.heap.size (.slice a5 n5 c5) la) := HA6.out.up b7
    have HRB7 : Hid (RdsS w7 (.slice a6 n6 c6) lb) := HRB.out.1.below b7
    clear kRR rr hsr b7
    go_wp2_with fail
    refine kS.mono ?_
    rintro e w8 ⟨rfl, g8⟩
    have HB48 : Hid (Below w4.heap.size w4 w8) := HB47.out.trans (g8.below.mono HB47.out.size)
    have HA8 : Hid (OwS w8 w4.heap.size (.slice a5 n5 c5) la) := HA7.out.up g8.below
    have HRB8 : Hid (RdsS w8 (.slice a6 n6 c6) lb) := HRB7.out.below g8.below
    have kRC := refcube_all w8 _ dims (Rds.below HW4.out HB48.out)
    unfold GivesS at kRC
    clear kS g8
    go_wp2_with fail
    refine kRC.mono ?_
    rintro e w9 ⟨v9, rfl, lc, rc, hsc, b9⟩
    obtain ⟨a9, n9, c9, h9⟩ := rc.sl
    subst h9
    have kS2 := sets_any w9 _ _ lb lc (HRB8.out.below b9) rc
    rw [HRB.out.2, hsc, decide_eq_true rfl] at kS2
    have HB49 : Hid (Below w4.heap.size w4 w9) := HB48.out.trans (b9.mono HB48.out.size)
    have HA9 : Hid (OwS w9 w4.heap.size (.slice a5 n5 c5) la) := HA8.out.up b9
    clear kRC rc hsc b9
    go_wp2_with fail
    refine kS2.mono ?_
    rintro e w10 ⟨rfl, g10⟩
    have HSP : Hid (SpS w4 w10 (.slice a5 n5 c5) la) := by
      have o := HA9.out.up g10.below
      exact ⟨o.own, fun s hs => ⟨_, o.each s hs⟩, HB49.out.trans (g10.below.mono HB49.out.size)⟩
    have hl5 : n5 = n + 1 := by
      have h1 := HSP.out.at.1
      have h2 := congrArg List.length HA.out.2
      rw [rol_len] at h2
      simp only [snds, List.length_map] at h2
      have := HN.out; omega
    clear kS2 g10 HA9 HB49 HRB8 HA8 HB48 HRB7 HA7 HB47 HA6 HB46 HB5 HB05
    go_wp2_with fail
    have h5m : (n5 : Int) ≤ 201 := by omega
    go_loopg [7] n5 (fun kx v7 wr => ∃ i : Nat, v7 = .int .i64 i ∧ i ≤ n5 ∧ n5 - i ≤ kx ∧ Hid (SpS w4 wr (.slice a5 n5 c5) la))
    case atStart => exact ⟨0, rfl, by omega, Nat.le_refl _, HSP⟩
    case round =>
      obtain ⟨i, rfl, hi, hkx, HS⟩ := hrel
      obtain ⟨Wo, hWo⟩ : ∃ Wo, Wo = wr := ⟨_, rfl⟩
      subst hWo
      by_cases hlt : i < n5
      · have hltz : (i : Int) < (n5 : Int) := by omega
        obtain ⟨el, -, kc⟩ := HS.out.at
        have hil : i < la.length := by omega
        obtain ⟨b5, rfl, kcc⟩ := kc (by omega)
        have hsm := List.getElem_mem hil
        obtain ⟨xs, ox⟩ := HS.out.each _ hsm
        obtain ⟨ax, cx, hx, hxm⟩ := own_len ox
        obtain ⟨s, hs⟩ : ∃ s, s = la[i] := ⟨_, rfl⟩
        rw [← hs] at hsm hx hxm
        unfold maxLen at hxm
        have HIL : Hid (i < la.length) := hil
        have HE : Hid (s = la[i] ∧ s ∈ la ∧ s.1 = .slice ax s.2.length cx) := ⟨hs, hsm, hx⟩
        generalize hm : s.2.length = m at *
        clear kc kcc ox hs hsm hx el hil xs
        go_wp2_with fail
        go_loopg [8] m (fun kx v8 wr => ∃ k : Nat, v8 = .int .i64 k ∧ k ≤ m ∧ m - k ≤ kx ∧ Hid (SpS w4 wr (.slice (some ⟨b5, 0, none⟩) n5 c5) la))
        case atStart => exact ⟨0, rfl, by omega, Nat.le_refl _, HS⟩
        case round =>
          clear HS
          obtain ⟨k, rfl, hk, hky, HS⟩ := hrel
          obtain ⟨-, -, kc⟩ := HS.out.at
          obtain ⟨b5', e5, kcc⟩ := kc (by have := HIL.out; omega)
          cases e5
          have ci : wr.cell? ⟨b5, i, none⟩ = some (.slice ax m cx) := by
            rw [← HE.out.2.2]
            exact (kcc i HIL.out).trans (congrArg (fun z : St => some z.1) HE.out.1.symm)
          by_cases hkl : k < m
          · have hklz : (k : Int) < (m : Int) := by omega
            obtain ⟨xs, ox⟩ := HS.out.each s HE.out.2.1
            rw [hm] at ox
            obtain ⟨g, cg, eg, hgb, ⟨u0, cu⟩, fu⟩ := own_cell ox hkl
            rw [HE.out.2.2] at eg
            cases eg
            have HGO : Hid (s.1.ownBlock = some g) := by show _ = _; rw [HE.out.2.2]; rfl
            clear ox kc kcc hgb
            go_wp2_with fail
            go_roundg (m - (k + 1))
            case measure => omega
            case rel => exact ⟨k + 1, by go_num, by omega, Nat.le_refl _, HS.out.set HE.out.2.1 HGO.out _ _⟩
          · have hklz : ¬ (k : Int) < (m : Int) := by omega
            clear kc kcc
            go_wp2_with fail
            go_roundg (n5 - (i + 1))
            case measure => omega
            case rel => exact ⟨i + 1, by go_num, by omega, Nat.le_refl _, HS⟩
      · have hltz : ¬ (i : Int) < (n5 : Int) := by omega
        have HB0 : Hid (Below w.heap.size w Wo ∧ Below w4.heap.size w4 Wo) := ⟨HB4.out.trans (HS.out.bl.mono HB4.out.size), HS.out.bl⟩
        go_wp2_with fail
        go_loopg [9] n (fun kx v9 wr => ∃ k : Nat, v9 = .int .i64 k ∧ k ≤ n ∧ n - k ≤ kx ∧ Hid (Grows Wo wr))
        case atStart => exact ⟨0, rfl, by omega, Nat.le_refl _, Grows.refl _⟩
        case round =>
          obtain ⟨k, rfl, hk, hky, HQ⟩ := hrel
          by_cases hkl : k < n
          · have hklz : (k : Int) < (n : Int) := by omega
            have hbg := Grows.below HQ.out
            obtain ⟨-, -, -, k1⟩ := (Rds.below (Rds.below HH.out HB0.out.1) hbg).ints
            obtain ⟨-, -, -, k2⟩ := (Rds.below (Rds.below HW4.out HB0.out.2) hbg).ints
            obtain ⟨bx, ox, rfl, d1⟩ := k1 (by have := HN.out; omega)
            obtain ⟨by', oy, rfl, d2⟩ := k2 (by have := HN.out; omega)
            have f1 := d1 k (by have := HN.out; omega)
            have f2 := d2 k (by have := HN.out; omega)
            generalize dims.getD k 0 = u at f1 f2
            clear k1 k2 d1 d2 hbg
            go_wp2_with fail
            go_quiet (fail)
            go_wp2_with fail
            go_roundg (n - (k + 1))
            case measure => omega
            case rel => exact ⟨k + 1, by go_num, by omega, Nat.le_refl _, Grows.trans HQ.out (Grows.drewN _ _)⟩
          · have hklz : ¬ (k : Int) < (n : Int) := by omega
            have hl5z : (n5 : Int) = (n : Int) + 1 := by omega
            have HBE : Hid (Below w.heap.size w wr) := HB0.out.1.trans ((Grows.below HQ.out).mono HB0.out.1.size)
            by_cases h6 : 6 < n
            · have h6z : (6 : Int) < (n : Int) := by omega
              subst hl5
              go_wp2_with fail
              go_ret
              exact ⟨rfl, HBE.out⟩
            · have h6z : ¬ (6 : Int) < (n : Int) := by omega
              have h2n : n6 = 2 ^ n := by
                rw [HN6.out]; unfold cubA; rw [if_pos (by have := HN.out; omega), cub_len, ← HN.out]
              have h2z : (n6 : Int) = 2 ^ n := by rw [h2n]; simp
              have h64 : (2 : Int) ^ n ≤ 64 := by
                have : (2 : Nat) ^ n ≤ 2 ^ 6 := Nat.pow_le_pow_right (by decide) (by omega)
                rw [← h2z, h2n]; omega
              have h0p : (0 : Int) ≤ 2 ^ n := by rw [← h2z]; omega
              have hq : ((n6 : Int) == wrap64 (2 ^ n)) = true := by rw [beq_iff_eq, IntWalk.wrap64_in _ (by omega)]; exact h2z
              subst hl5
              clear h2n h2z h64 h0p
              go_wp2_with fail
              go_ret
              exact ⟨rfl, HBE.out⟩
end Go.Proofs.YtiiihjihegilnaaDoor
