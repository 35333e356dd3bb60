/- The walk of QueryFits. -/
import Derived.Test.YtiiihjihegilnaaDoorQfm
import Derived.Deep.CutBlock
import Derived.Shelf.SlSortCmp.QuietGrown
namespace Go.Proofs.YtiiihjihegilnaaDoor
open Go.RowKit Go.Sort

def bls (l : List Bool) : List Value := l.map Value.bool
theorem bls_get (l : List Bool) (i : Nat) (h : i < l.length) : (bls l)[i]? = some (.bool (l.getD i false)) := by simp [bls, h]
theorem Rds.bools {w : World} {ao : Option Addr} {n cap : Nat} {l : List Bool} (h : Rds w (.slice ao n cap) (bls l)) : n = l.length ∧ n ≤ cap ∧ cap ≤ maxLen ∧ (0 < l.length → ∃ b off, ao = some ⟨b, off, none⟩ ∧ ∀ i, i < l.length → w.cell? ⟨b, off + i, none⟩ = some (.bool (l.getD i false))) := by
  obtain ⟨e0, e1, e2, e3⟩ := h.cells
  have el : (bls l).length = l.length := by simp [bls]
  rw [el] at e0 e1 e3
  refine ⟨e0, by omega, e2, fun hp => ?_⟩
  obtain ⟨b, off, e, hc⟩ := e3 hp
  exact ⟨b, off, e, fun i hi => hc i _ (bls_get l i hi)⟩
theorem cell_gr {w : World} {a : Addr} {v : Value} (h : w.cell? a = some v) (nq : Nat) (os : Array Obj) : (grow (w.drewN nq) os).cell? a = some v := cell_up (Grows.below ⟨nq, os, rfl⟩) h
theorem RdsS.one {w : World} {b off n cap : Nat} {l : List St} (h : RdsS w (.slice (some ⟨b, off, none⟩) n cap) l) {i : Nat} (hi : i < l.length) : RdsS w (.slice (some ⟨b, off + i, none⟩) 1 (cap - i)) [l[i]] := by
  obtain ⟨e0, e1, e2, e3⟩ := h.at
  obtain ⟨b', off', e4, hc⟩ := e3 (by omega)
  cases e4
  refine ⟨⟨some ⟨b, off + i, none⟩, cap - i, rfl, rfl, by simp; omega, by omega, (fun h => by cases h), fun ad ha j u hj => ?_⟩, fun s hs => ?_⟩
  · cases ha
    rcases j with _ | j
    · simp at hj
      subst hj
      have := hc i hi
      simp [Addr.add, this]
    · simp at hj
  · rw [List.mem_singleton.1 hs]; exact h.ok _ (List.getElem_mem hi)
theorem OwS.off {w : World} {base : Nat} {v : Value} {l : List St} (h : OwS w base v l) {g o : Nat} (hg : g < base) (u : Value) : OwS (w.setCell ⟨g, o, none⟩ u) base v l :=
  ⟨ownsRow_setCell_below h.own (a := ⟨g, o, none⟩) hg u, fun s hs => ownsRow_setCell_below (h.each s hs) (a := ⟨g, o, none⟩) hg u⟩
/-- Check finds nothing wrong with sets that rise. -/
theorem check_fine (w : World) (v : Value) (l : List St) (h : RdsS w v l) (hw : wset 8 l = -1) :
    Calls Tryd.prog 11 #[.agg #[.int .i64 8, .int .i64 0], .agg #[.int .i64 0, .int .i64 0, .int .i64 1, .int .i64 0, .slice none 0 0, .int .i64 0, .int .i64 0, .slice none 0 0, .int .i64 0, v, .slice none 0 0, .int .i64 1, .int .i64 0]] w fun e w' => e = .returned .nilIface ∧ Below w.heap.size w w' := by
  refine (check_any w 8 0 (qAll v l) (qAll_ok h) (by omega)).mono ?_
  rintro e w' ⟨hT, b⟩
  rcases hT with ⟨_, rfl⟩ | ⟨k, B, hk, hlow, hne, _⟩
  · exact ⟨rfl, b⟩
  · exfalso
    apply hne
    by_cases h4 : k = 4
    · subst h4; exact hw
    · exact qAll_look 8 0 (by decide) _ _ k h4
set_option maxRecDepth 100000 in
set_option maxHeartbeats 8000000 in
theorem fits_walk (w : World) (v : Value) (picks : List Bool) (h : Rds w v (bls picks)) (hg : Hnd w) :
    Calls Tryd.prog 4 #[v] w fun e w' => e = .returned (.bool true) ∧ Below w.heap.size w w' := by
  obtain ⟨j0, hj0, hq0, hq1, hq2⟩ := info_parts Tryd.info_int
  obtain ⟨ao, n, cap, rfl⟩ := h.sl
  obtain ⟨e0, e1, e2, -⟩ := h.bools
  have kA := awake_any w hg
  have HH : Hid _ := h
  have HN : Hid (n = picks.length) := e0
  unfold maxLen at e2
  have mixed : Tryd.prog.follows .mixedOrders = true := by kernel_rfl
  clear h hg e0
  go_enter Tryd.func4, Tryd.ntmps4
  go_wp2_with fail
  refine kA.mono ?_
  rintro e w1 ⟨rfl, b1⟩
  have HB1 : Hid (Below w.heap.size w w1) := b1
  clear kA b1
  go_upto_block 0 with fail
  go_cut [4] (fun v4 wx => ∃ a4 n4 c4, v4 = .slice a4 n4 c4 ∧ Hid (∃ d : List Int, Rds wx (.slice a4 n4 c4) (iv d) ∧ d.length ≤ 6 ∧ risB 8 d 0 = true ∧ Below w.heap.size w wx))
  case first =>
    go_wp2_with fail
    go_loopg [4, 5] 9 (fun kx v4 v5 wr => ∃ (i : Nat) (d : List Int), v5 = .int .i64 i ∧ i ≤ 8 ∧ 9 - i ≤ kx ∧ Hid (d.length ≤ 6 ∧ risB (i : Int) d 0 = true) ∧ Hid (wr.ownsRow w1.heap.size 3 1 v4 d.length (iv d)) ∧ Hid (Below w1.heap.size w1 wr))
    case atStart => exact ⟨0, [], rfl, by omega, by omega, ⟨by simp, rfl⟩, World.ownsRow_nil _ _ _ _, Below.refl _ _⟩
    case round =>
      obtain ⟨i, d, rfl, hi, hkx, HR, HO, HB⟩ := hrel
      obtain ⟨a4, n4, c4, h4⟩ := own_sl HO.out
      subst h4
      have rd := Rds.ints (rds_own1 HO.out)
      obtain ⟨en4, -, -, -⟩ := rd
      have HE4 : Hid (n4 = d.length) := en4
      have hn46 : n4 ≤ 6 := by have := HR.out.1; omega
      have HFIN : Hid (∃ d : List Int, Rds wr (.slice a4 n4 c4) (iv d) ∧ d.length ≤ 6 ∧ risB 8 d 0 = true ∧ Below w.heap.size w wr) := ⟨d, rds_own1 HO.out, HR.out.1, risB_up _ _ (by omega) d HR.out.2, HB1.out.trans (HB.out.mono HB1.out.size)⟩
      clear en4
      by_cases h1 : i < n
      · have h1z : (i : Int) < (n : Int) := by omega
        by_cases h2 : i < 8
        · have h2z : (i : Int) < 8 := by omega
          by_cases h3 : n4 < 6
          · have h3z : (n4 : Int) < 6 := by omega
            obtain ⟨-, -, -, k1⟩ := (Rds.below (Rds.below HH.out HB1.out) HB.out).bools
            obtain ⟨b, off, rfl, hc⟩ := k1 (by have := HN.out; omega)
            have hci := hc i (by have := HN.out; omega)
            generalize picks.getD i false = p at hci
            clear k1 hc
            cases p with
            | true =>
              have rone := one_rdI wr (.int .i64 (i : Int)) 3 _ rfl
              have HR1 : Hid _ := rone
              have HO5 : Hid ((wr.alloc (.cells #[.int .i64 (i : Int)] 3)).ownsRow w1.heap.size 3 1 (.slice a4 n4 c4) d.length (iv d)) := HO.out.alloc _
              have HB5 : Hid (Below w1.heap.size w1 (wr.alloc (.cells #[.int .i64 (i : Int)] 3))) := HB.out.alloc HB.out.size _
              have hza : d.length + 1 ≤ maxLen := qmax _ (by have := HR.out.1; omega)
              have hzb' : ((d.length + 1) + (d.length + 1) / 4 + 192) * 8 ≤ 281474976710656 := qby _ _ (by have := HR.out.1; omega) (by omega)
              have hws5 : w1.heap.size ≤ (wr.alloc (.cells #[.int .i64 (i : Int)] 3)).heap.size := HB5.out.size
              have HOO : Aside (∀ u ∈ [Value.int .i64 (i : Int)], u.oneCell' = true) := fun u hu => by simp at hu; subst hu; rfl
              have HR2 : Hid ((d ++ [(i : Int)]).length ≤ 6 ∧ risB ((i + 1 : Nat) : Int) (d ++ [(i : Int)]) 0 = true) := ⟨by have := HE4.out; simp; omega, risB_snoc _ d HR.out.2 (by omega) (by omega)⟩
              clear rone
              go_wp2_with (first
                | (at_builtin; refine wpList_appK rfl _ _ 22 rfl w1.heap.size 3 j0 (.int .i64 0) 1 8 Tryd.underlying22 hj0 hq0 hq1 hq2 rfl (by decide) _ _ _ rfl HO5.out _ _ _ rfl HR1.out HOO.out hza hzb' hws5 ?_; intro v7 w7 hown7 hgrow7 hnil7))
              go_roundg (9 - (i + 1))
              case measure => omega
              case rel => exact ⟨i + 1, d ++ [(i : Int)], by go_num, by omega, Nat.le_refl _, HR2, by show World.ownsRow _ _ _ _ _ _ _; rw [List.length_append, iv_app]; exact hown7, HB5.out.grown hgrow7 hws5 fun k hk => (World.ownsRow.lt HO5.out k hk).1⟩
            | false =>
              go_wp2_with fail
              go_roundg (9 - (i + 1))
              case measure => omega
              case rel => exact ⟨i + 1, d, by go_num, by omega, Nat.le_refl _, ⟨HR.out.1, risB_up _ _ (by omega) d HR.out.2⟩, HO, HB⟩
          · have h3z : ¬ (n4 : Int) < 6 := by omega
            go_wp2_with fail
            go_meet
            case rel => exact ⟨_, _, _, rfl, HFIN⟩
        · have h2z : ¬ (i : Int) < 8 := by omega
          go_wp2_with fail
          go_meet
          case rel => exact ⟨_, _, _, rfl, HFIN⟩
      · have h1z : ¬ (i : Int) < (n : Int) := by omega
        go_wp2_with fail
        go_meet
        case rel => exact ⟨_, _, _, rfl, HFIN⟩
  case rest =>
    rename World => wx
    obtain ⟨a4, n4, c4, rfl, HD⟩ := hcut
    obtain ⟨d, rd, hdl, hdr, bx⟩ := HD.out
    obtain ⟨S1, hS1⟩ : ∃ S1, S1 = wx.alloc (.cells #[.int .i64 8, .int .i64 0] 31) := ⟨_, rfl⟩
    have bS : Below wx.heap.size wx S1 := by rw [hS1]; exact (Grows.alloc _ _).below
    have cs : S1.cell? ⟨wx.heap.size, 0, none⟩ = some (.int .i64 8) ∧ S1.cell? ⟨wx.heap.size, 1, none⟩ = some (.int .i64 0) := by rw [hS1]; exact ⟨by simp, by simp⟩
    have kR := rollup_any S1 _ d (rd.below bS) (by omega)
    have HX : Hid (Rds S1 (.slice a4 n4 c4) (iv d) ∧ Below w.heap.size w S1 ∧ S1.cell? ⟨wx.heap.size, 0, none⟩ = some (.int .i64 8) ∧ S1.cell? ⟨wx.heap.size, 1, none⟩ = some (.int .i64 0)) := ⟨rd.below bS, bx.trans (bS.mono bx.size), cs⟩
    have HDR : Hid (d.length ≤ 6 ∧ risB 8 d 0 = true) := ⟨hdl, hdr⟩
    have hwx : w.heap.size ≤ wx.heap.size := bx.size
    rw [hS1] at kR
    have HS1 : Hid _ := hS1
    clear rd hdl hdr bx bS cs hS1 HD
    go_wp2_with fail
    refine kR.mono ?_
    rintro e w2 ⟨v5, rfl, la, oa, hsa, b2⟩
    rw [← HS1.out] at b2
    obtain ⟨a5, n5, c5, h5⟩ := own_sl oa.own
    subst h5
    obtain ⟨V, hV⟩ : ∃ V, V = w2.alloc (.cells #[.int .i64 0, .int .i64 0, .int .i64 1, .int .i64 0, .slice none 0 0, .int .i64 0, .int .i64 0, .slice none 0 0, .int .i64 0, .slice a5 n5 c5, .slice none 0 0, .int .i64 1, .int .i64 0] 40) := ⟨_, rfl⟩
    have bV : Below w2.heap.size w2 V := by rw [hV]; exact (Grows.alloc _ _).below
    have b2V : Below S1.heap.size S1 V := b2.trans (bV.mono b2.size)
    have hla : wset 8 la = -1 := by
      have h1 : la.length = d.length + 1 := by have := congrArg List.length hsa; rw [rol_len] at this; simpa [snds] using this
      exact fits_ok HDR.out.2 (by rw [hsa]; exact rol_mem d) (by omega) (by have := HDR.out.1; omega)
    have kC := check_fine V _ la ((oa.up bV).rds) hla
    obtain ⟨rdS, bS, s0, s1⟩ := HX.out
    have s0V := cell_up b2V s0
    have s1V := cell_up b2V s1
    have qV : ∀ c u, (#[.int .i64 0, .int .i64 0, .int .i64 1, .int .i64 0, .slice none 0 0, .int .i64 0, .int .i64 0, .slice none 0 0, .int .i64 0, .slice a5 n5 c5, .slice none 0 0, .int .i64 1, .int .i64 0] : Array Value)[c]? = some u → V.cell? ⟨w2.heap.size, c, none⟩ = some u := fun c u hu => by rw [hV]; exact al_new _ _ _ rfl hu
    have fV : ∀ c, V.frozen? ⟨w2.heap.size, c, none⟩ = false := fun c => by rw [hV]; simp
    have HV : Hid (Rds V (.slice a4 n4 c4) (iv d) ∧ Below w.heap.size w V ∧ V.cell? ⟨wx.heap.size, 0, none⟩ = some (.int .i64 8) ∧ V.cell? ⟨wx.heap.size, 1, none⟩ = some (.int .i64 0) ∧ wx.heap.size < w2.heap.size ∧ w2.heap.size < V.heap.size) := ⟨rdS.below b2V, bS.trans (b2V.mono bS.size), s0V, s1V, Nat.lt_of_lt_of_le (World.block_lt_of_cell? _ _ s0) b2.size, by rw [hV]; simp⟩
    have HQV : Aside _ := qV
    have HFV : Aside _ := fV
    rw [hV] at kC s0V s1V
    have HVV : Hid _ := hV
    clear kR oa hsa b2 bV b2V hla rdS bS s0 s1 qV fV hV HX HS1
    go_wp2_with fail
    refine kC.mono ?_
    rintro e w3 ⟨rfl, b3⟩
    rw [← HVV.out] at b3
    obtain ⟨rdV, bVw, s0V', s1V', hxl, hql⟩ := HV.out
    have kQ := cube_any w3 _ d (rdV.below b3) HDR.out.1
    have HB3 : Hid (Below V.heap.size V w3) := b3
    clear kC b3 s0V s1V
    go_wp2_with fail
    refine kQ.mono ?_
    rintro e w4 ⟨v6, rfl, lb, ob, hsb, b4⟩
    obtain ⟨a6, n6, c6, h6⟩ := own_sl ob.own
    subst h6
    have bV4 : Below V.heap.size V w4 := HB3.out.trans (b4.mono HB3.out.size)
    have q9 : w4.cell? ⟨w2.heap.size, 9, none⟩ = some (.slice a5 n5 c5) := by rw [bV4.cell (by exact hql)]; exact HQV.out 9 _ rfl
    have f9 : w4.frozen? ⟨w2.heap.size, 9, none⟩ = false := by rw [bV4.frozen (by exact hql)]; exact HFV.out 9
    obtain ⟨Y, hY⟩ : ∃ Y, Y = w4.setCell ⟨w2.heap.size, 9, none⟩ (.slice a6 n6 c6) := ⟨_, rfl⟩
    have hq3 : w2.heap.size < w3.heap.size := Nat.lt_of_lt_of_le hql HB3.out.size
    have obY : OwS Y w3.heap.size (.slice a6 n6 c6) lb := by rw [hY]; exact ob.off hq3 _
    have hn6 : n6 = lb.length := obY.rds.at.1
    have hlb : lb.length = 2 ^ d.length := by have := congrArg List.length hsb; rw [cub_len] at this; simpa [snds] using this
    have hp6 : 1 ≤ 2 ^ d.length ∧ 2 ^ d.length ≤ 64 := ⟨Nat.one_le_two_pow, Nat.le_trans (Nat.pow_le_pow_right (by decide) HDR.out.1) (by decide)⟩
    have hlw : wset 8 lb = -1 := fits_ok HDR.out.2 (by rw [hsb, cub_eq]; exact rcub_sub d) (by omega) (by omega)
    have kC2 := check_fine Y _ lb obY.rds hlw
    have othY : ∀ (g o : Nat) (u : Value), (g, o) ≠ (w2.heap.size, 9) → w4.cell? ⟨g, o, none⟩ = some u → Y.cell? ⟨g, o, none⟩ = some u := fun g o u hg hc => by
      rw [hY, World.cell?_setCell_other _ _ _ _ (fun e => hg (by cases e; rfl))]; exact hc
    have s0Y := othY wx.heap.size 0 _ (fun e => by have := (Prod.mk.inj e).1; omega) (cell_up bV4 s0V')
    have s1Y := othY wx.heap.size 1 _ (fun e => by have := (Prod.mk.inj e).1; omega) (cell_up bV4 s1V')
    have y0 : Y.cell? ⟨w2.heap.size, 0, none⟩ = some (.int .i64 0) := othY _ _ _ (by simp) (by rw [bV4.cell (by exact hql)]; exact HQV.out 0 _ rfl)
    have y1 : Y.cell? ⟨w2.heap.size, 1, none⟩ = some (.int .i64 0) := othY _ _ _ (by simp) (by rw [bV4.cell (by exact hql)]; exact HQV.out 1 _ rfl)
    have y2 : Y.cell? ⟨w2.heap.size, 2, none⟩ = some (.int .i64 1) := othY _ _ _ (by simp) (by rw [bV4.cell (by exact hql)]; exact HQV.out 2 _ rfl)
    have y3 : Y.cell? ⟨w2.heap.size, 3, none⟩ = some (.int .i64 0) := othY _ _ _ (by simp) (by rw [bV4.cell (by exact hql)]; exact HQV.out 3 _ rfl)
    have y4 : Y.cell? ⟨w2.heap.size, 4, none⟩ = some (.slice none 0 0) := othY _ _ _ (by simp) (by rw [bV4.cell (by exact hql)]; exact HQV.out 4 _ rfl)
    have y5 : Y.cell? ⟨w2.heap.size, 5, none⟩ = some (.int .i64 0) := othY _ _ _ (by simp) (by rw [bV4.cell (by exact hql)]; exact HQV.out 5 _ rfl)
    have y6 : Y.cell? ⟨w2.heap.size, 6, none⟩ = some (.int .i64 0) := othY _ _ _ (by simp) (by rw [bV4.cell (by exact hql)]; exact HQV.out 6 _ rfl)
    have y7 : Y.cell? ⟨w2.heap.size, 7, none⟩ = some (.slice none 0 0) := othY _ _ _ (by simp) (by rw [bV4.cell (by exact hql)]; exact HQV.out 7 _ rfl)
    have y8 : Y.cell? ⟨w2.heap.size, 8, none⟩ = some (.int .i64 0) := othY _ _ _ (by simp) (by rw [bV4.cell (by exact hql)]; exact HQV.out 8 _ rfl)
    have y10 : Y.cell? ⟨w2.heap.size, 10, none⟩ = some (.slice none 0 0) := othY _ _ _ (by simp) (by rw [bV4.cell (by exact hql)]; exact HQV.out 10 _ rfl)
    have y11 : Y.cell? ⟨w2.heap.size, 11, none⟩ = some (.int .i64 1) := othY _ _ _ (by simp) (by rw [bV4.cell (by exact hql)]; exact HQV.out 11 _ rfl)
    have y12 : Y.cell? ⟨w2.heap.size, 12, none⟩ = some (.int .i64 0) := othY _ _ _ (by simp) (by rw [bV4.cell (by exact hql)]; exact HQV.out 12 _ rfl)
    have y9 : Y.cell? ⟨w2.heap.size, 9, none⟩ = some (.slice a6 n6 c6) := by rw [hY]; exact World.cell?_setCell_same _ _ _ q9
    have bwV4 : Below w.heap.size w w4 := bVw.trans (bV4.mono bVw.size)
    have hwq : w.heap.size ≤ w2.heap.size := by omega
    have bwY : Below w.heap.size w Y := by rw [hY]; exact bwV4.setCell (p := ⟨w2.heap.size, 9, none⟩) hwq _
    have rdY : Rds Y (.slice a4 n4 c4) (iv d) := by
      have h1 := rdV.below bV4
      obtain ⟨ao', cap', he, r1, r2, r3, r4⟩ := h1
      refine ⟨ao', cap', he, r1, r2, r3, fun ad ha j u hj => ?_⟩
      have hc := r4 ad ha j u hj
      have hv := rdV
      rw [hY, World.cell?_setCell_other _ _ _ _ (fun e => ?_)]
      · exact hc
      · rw [← e] at hc
        rw [q9] at hc
        have : u = .slice a5 n5 c5 := (Option.some.inj hc).symm
        rw [this] at hj
        simp only [iv, List.getElem?_map] at hj
        cases hd : d[j]? with
        | none => rw [hd] at hj; cases hj
        | some x => rw [hd] at hj; cases hj
    have HYE : Hid _ := hY
    have HOB : Hid (OwS Y w3.heap.size (.slice a6 n6 c6) lb ∧ snds lb = cub d ∧ n6 = lb.length) := ⟨obY, hsb, hn6⟩
    have HYY : Hid (Rds Y (.slice a4 n4 c4) (iv d) ∧ Below w.heap.size w Y ∧ Y.cell? ⟨w2.heap.size, 9, none⟩ = some (.slice a6 n6 c6)) := ⟨rdY, bwY, y9⟩
    have hn64 : n6 ≤ 64 := by omega
    clear kQ ob hsb b4 bV4 obY hlb hp6 hlw othY bwV4 hwq bwY rdY hY hn6 rdV bVw s0V' s1V' HV HB3
    go_upto_region 14 with fail
    rw [← HYE.out]
    go_wp2_with fail
    refine kC2.mono ?_
    rintro e w5 ⟨rfl, b5⟩
    have kR2 := rollup_any w5 _ d (Rds.below HYY.out.1 b5) (by have := HDR.out.1; omega)
    have HB5 : Hid (Below Y.heap.size Y w5) := b5
    clear kC2 b5 y0 y1 y2 y3 y4 y5 y6 y7 y8 y9 y10 y11 y12 s0Y s1Y q9 f9
    go_wp2_with fail
    refine kR2.mono ?_
    rintro e w6 ⟨v7, rfl, lr, olr, hsr, b6⟩
    obtain ⟨a7, n7, c7, h7⟩ := own_sl olr.own
    subst h7
    have bY6 : Below Y.heap.size Y w6 := HB5.out.trans (b6.mono HB5.out.size)
    have hn7 : n7 = lr.length := olr.rds.at.1
    have hlr : lr.length = d.length + 1 := by have := congrArg List.length hsr; rw [rol_len] at this; simpa [snds] using this
    have hn77 : n7 ≤ 7 := by have := HDR.out.1; omega
    have H6 : Hid (RdsS w6 (.slice a6 n6 c6) lb ∧ RdsS w6 (.slice a7 n7 c7) lr ∧ w6.cell? ⟨w2.heap.size, 9, none⟩ = some (.slice a6 n6 c6) ∧ Below w.heap.size w w6) := ⟨(HOB.out.1.rds).below bY6, olr.rds, cell_up bY6 HYY.out.2.2, HYY.out.2.1.trans (bY6.mono HYY.out.2.1.size)⟩
    have HL : Hid (n6 = lb.length ∧ n7 = lr.length ∧ snds lb = cub d ∧ snds lr = rol d) := ⟨HOB.out.2.2, hn7, HOB.out.2.1, hsr⟩
    have HND : Aside (∀ i k (hi : i < lb.length) (hk : k < lb.length), i ≠ k → lb[i].2 ≠ lb[k].2) := fun i k hi hk hne e => by
      have hnd : (snds lb).Nodup := by rw [HL.out.2.2.1, cub_eq]; exact rcub_once d HDR.out.2
      have h1 : i < (snds lb).length := by simpa [snds] using hi
      have h2 : k < (snds lb).length := by simpa [snds] using hk
      exact hne ((List.getElem_inj hnd (h₀ := h1) (h₁ := h2)).1 (by simpa [snds] using e))
    have HCN : Hid (cnt (cub d) (rol d) = n7) := by
      show _ = _
      rw [cub_eq, cnt_all (rcub_once d HDR.out.2) (rol d) (fun x hx => rcub_all (rol_mem d x hx)), rol_len]
      omega
    clear kR2 olr hsr b6 bY6 hn7 hlr HOB HYY HYE HB5
    go_wp2_with fail
    go_loopg [11, 12] n6 (fun kx v11 v12 wr => ∃ (i c : Nat), v12 = .int .i64 (i : Int) ∧ v11 = .int .i64 (c : Int) ∧ i ≤ n6 ∧ n6 - i ≤ kx ∧ c ≤ i * 7 ∧ Hid (c = cnt ((cub d).take i) (rol d)) ∧ Hid (Grows w6 wr))
    case atStart => exact ⟨0, 0, rfl, rfl, by omega, Nat.le_refl _, by omega, rfl, Grows.refl _⟩
    case round =>
      obtain ⟨i, c, rfl, rfl, hi, hkx, hc7, HC, HG⟩ := hrel
      obtain ⟨Wo, hWo⟩ : ∃ Wo, Wo = wr := ⟨_, rfl⟩
      subst hWo
      have c9 := cell_up (Grows.below HG.out) H6.out.2.2.1
      by_cases hlt : i < n6
      · have hltz : (i : Int) < (n6 : Int) := by omega
        have hil : i < lb.length := by have := HL.out.1; omega
        obtain ⟨-, hnc6, hcm6, kc⟩ := H6.out.1.at
        obtain ⟨b6, o6, rfl, -⟩ := kc (by omega)
        unfold maxLen at hcm6
        have HIL : Hid (i < lb.length) := hil
        clear kc hil
        go_wp2_with fail
        go_loopg [13] i (fun kx v13 wr => ∃ (k : Nat), v13 = .int .i64 (k : Int) ∧ k ≤ i ∧ i - k ≤ kx ∧ Hid (Grows w6 wr))
        case atStart => exact ⟨0, rfl, by omega, Nat.le_refl _, HG⟩
        case round =>
          clear HG
          obtain ⟨k, rfl, hk, hky, HG⟩ := hrel
          clear c9
          have c9 := cell_up (Grows.below HG.out) H6.out.2.2.1
          by_cases hkl : k < i
          · have hklz : (k : Int) < (i : Int) := by omega
            have hkb : k < lb.length := by have := HIL.out; omega
            have kS : ∀ nq os, Calls Tryd.prog 8 #[.slice (some ⟨b6, o6 + i, none⟩) 1 (c6 - i), .slice (some ⟨b6, o6 + k, none⟩) 1 (c6 - k)] (grow (wr.drewN nq) os) fun e w' => e = .returned (.bool false) ∧ ∃ q os', w' = grow ((grow (wr.drewN nq) os).drewN q) os' := fun nq os => by
              have g : Below w6.heap.size w6 (grow (wr.drewN nq) os) := Grows.below (Grows.trans HG.out ⟨nq, os, rfl⟩)
              have r := H6.out.1.below g
              have := sets_any _ _ _ [lb[i]'HIL.out] [lb[k]] (r.one HIL.out) (r.one hkb)
              have e1 : ¬ (snds [lb[i]'HIL.out] = snds [lb[k]'hkb]) := fun h => HND.out i k HIL.out hkb (by omega) (List.cons.inj h).1
              refine this.mono ?_
              intro e w' h
              exact ⟨h.1.trans (congrArg (fun b => Ending.returned (.bool b)) (decide_eq_false e1)), h.2⟩
            have z9 := fun nq os => cell_gr c9 nq os
            have n1 : ¬ c6 = i := by omega
            have n2 : ¬ c6 = k := by omega
            have hi1 : (i : Int) + 1 ≤ (c6 : Int) := by omega
            have hk1 : (k : Int) + 1 ≤ (c6 : Int) := by omega
            clear hkb
            go_wp2_with fail
            refine wp_region_quiet_grown (by assumption) (by kernel_rfl) ?_
            repeat (go_big_quiet_step (first | (go_at_call 8; with_reducible refine Calls.grown_of (kS _ _))))
            refine wpQuiet_nil ?_
            intro T hw'
            obtain ⟨⟨nq, osq⟩, hw''⟩ := hw'
            have HGT : Hid (Grows w6 T) := Grows.trans HG.out ⟨nq, osq, hw''⟩
            clear hw'' kS z9
            go_wp2_with fail
            go_roundg (i - (k + 1))
            case measure => omega
            case rel => exact ⟨k + 1, by go_num, by omega, Nat.le_refl _, HGT⟩
          · have hklz : ¬ (k : Int) < (i : Int) := by omega
            go_wp2_with fail
            clear c9
            go_loopg [11, 15] n7 (fun kx v11 v15 wr => ∃ (m c2 : Nat), v15 = .int .i64 (m : Int) ∧ v11 = .int .i64 (c2 : Int) ∧ m ≤ n7 ∧ n7 - m ≤ kx ∧ c2 ≤ i * 7 + m ∧ Hid (c2 = c + (((rol d).take m).countP fun t => decide ((lb[i]'HIL.out).2 = t))) ∧ Hid (Grows w6 wr))
            case atStart => exact ⟨0, c, rfl, rfl, by omega, Nat.le_refl _, by omega, by show _ = _; simp, HG⟩
            case round =>
              clear HG
              obtain ⟨m, c2, rfl, rfl, hm, hkz, hc2, HM, HG⟩ := hrel
              have c9 := cell_up (Grows.below HG.out) H6.out.2.2.1
              by_cases hml : m < n7
              · have hmlz : (m : Int) < (n7 : Int) := by omega
                have hmr : m < lr.length := by have := HL.out.2.1; omega
                obtain ⟨-, hnc7, hcm7, kc7⟩ := H6.out.2.1.at
                obtain ⟨b7, o7, rfl, -⟩ := kc7 (by omega)
                unfold maxLen at hcm7
                have hrm : m < (rol d).length := by rw [← HL.out.2.2.2]; simpa [snds] using hmr
                have hgm : (rol d)[m] = lr[m].2 := by
                  have : (snds lr)[m]'(by simpa [snds] using hmr) = lr[m].2 := by simp [snds]
                  rw [← this]; simp only [HL.out.2.2.2]
                have HTK : Hid ((((rol d).take (m + 1)).countP fun t => decide ((lb[i]'HIL.out).2 = t)) = (((rol d).take m).countP fun t => decide ((lb[i]'HIL.out).2 = t)) + if (lb[i]'HIL.out).2 = lr[m].2 then 1 else 0) := by
                  show _ = _
                  rw [take_step _ _ hrm, List.countP_append, hgm]
                  simp [List.countP_cons]
                obtain ⟨p, hp⟩ : ∃ p : Bool, p = decide ((lb[i]'HIL.out).2 = lr[m].2) := ⟨_, rfl⟩
                have HP : Hid _ := hp
                have kS : ∀ nq os, Calls Tryd.prog 8 #[.slice (some ⟨b6, o6 + i, none⟩) 1 (c6 - i), .slice (some ⟨b7, o7 + m, none⟩) 1 (c7 - m)] (grow (wr.drewN nq) os) fun e w' => e = .returned (.bool p) ∧ ∃ q os', w' = grow ((grow (wr.drewN nq) os).drewN q) os' := fun nq os => by
                  have g : Below w6.heap.size w6 (grow (wr.drewN nq) os) := Grows.below (Grows.trans HG.out ⟨nq, os, rfl⟩)
                  have := sets_any _ _ _ [lb[i]'HIL.out] [lr[m]] ((H6.out.1.below g).one HIL.out) ((H6.out.2.1.below g).one hmr)
                  have e1 : decide (snds [lb[i]'HIL.out] = snds [lr[m]]) = p := by
                    rw [hp]
                    by_cases e : (lb[i]'HIL.out).2 = lr[m].2
                    · rw [decide_eq_true e]; exact decide_eq_true (by simp only [snds, List.map_cons, List.map_nil]; rw [e])
                    · rw [decide_eq_false e]; exact decide_eq_false (fun h => e (List.cons.inj h).1)
                  rw [e1] at this
                  exact this
                have z9 := fun nq os => cell_gr c9 nq os
                have n1 : ¬ c6 = i := by omega
                have n2 : ¬ c7 = m := by omega
                have hi1 : (i : Int) + 1 ≤ (c6 : Int) := by omega
                have hm1 : (m : Int) + 1 ≤ (c7 : Int) := by omega
                clear kc7 hrm hgm hp
                cases p with
                | true =>
                  have HM2 : Hid (c2 + 1 = c + (((rol d).take (m + 1)).countP fun t => decide ((lb[i]'HIL.out).2 = t))) := by
                    show _ = _
                    rw [HTK.out, if_pos (of_decide_eq_true HP.out.symm), HM.out]; omega
                  go_wp2_with fail
                  refine wp_region_quiet_grown (by assumption) (by kernel_rfl) ?_
                  repeat (go_big_quiet_step (first | (go_at_call 8; with_reducible refine Calls.grown_of (kS _ _))))
                  refine wpQuiet_nil ?_
                  intro T hw'
                  obtain ⟨⟨nq, osq⟩, hw''⟩ := hw'
                  have HGT : Hid (Grows w6 T) := Grows.trans HG.out ⟨nq, osq, hw''⟩
                  clear hw'' kS z9
                  go_wp2_with fail
                  go_roundg (n7 - (m + 1))
                  case measure => omega
                  case rel => exact ⟨m + 1, c2 + 1, by go_num, by go_num, by omega, Nat.le_refl _, by omega, HM2, HGT⟩
                | false =>
                  have HM2 : Hid (c2 = c + (((rol d).take (m + 1)).countP fun t => decide ((lb[i]'HIL.out).2 = t))) := by
                    show _ = _
                    rw [HTK.out, if_neg (of_decide_eq_false HP.out.symm), HM.out]; omega
                  go_wp2_with fail
                  refine wp_region_quiet_grown (by assumption) (by kernel_rfl) ?_
                  repeat (go_big_quiet_step (first | (go_at_call 8; with_reducible refine Calls.grown_of (kS _ _))))
                  refine wpQuiet_nil ?_
                  intro T hw'
                  obtain ⟨⟨nq, osq⟩, hw''⟩ := hw'
                  have HGT : Hid (Grows w6 T) := Grows.trans HG.out ⟨nq, osq, hw''⟩
                  clear hw'' kS z9
                  go_wp2_with fail
                  go_roundg (n7 - (m + 1))
                  case measure => omega
                  case rel => exact ⟨m + 1, c2, by go_num, rfl, by omega, Nat.le_refl _, by omega, HM2, HGT⟩
              · have hmlz : ¬ (m : Int) < (n7 : Int) := by omega
                have HC2 : Hid (c2 = cnt ((cub d).take (i + 1)) (rol d)) := by
                  show _ = _
                  have hic : i < (cub d).length := by rw [← HL.out.2.2.1]; simpa [snds] using HIL.out
                  have hgi : (cub d)[i] = (lb[i]'HIL.out).2 := by
                    have : (snds lb)[i]'(by simpa [snds] using HIL.out) = (lb[i]'HIL.out).2 := List.getElem_map ..
                    rw [← this]; simp only [HL.out.2.2.1]
                  have hml2 : (rol d).length ≤ m := by have h3 := congrArg List.length HL.out.2.2.2; have h4 := HL.out.2.1; simp only [snds, List.length_map] at h3; omega
                  rw [take_step _ _ hic, cnt_app, ← HC.out, HM.out, List.take_of_length_le hml2, hgi]
                  simp [cnt, cnt1]
                go_wp2_with fail
                go_roundg (n6 - (i + 1))
                case measure => omega
                case rel => exact ⟨i + 1, c2, by go_num, rfl, by omega, Nat.le_refl _, by omega, HC2, HG⟩
      · have hltz : ¬ (i : Int) < (n6 : Int) := by omega
        have HF : Hid (c = n7) := by
          show _ = _
          have h1 := HC.out
          have h2 : (cub d).length ≤ i := by have h3 := congrArg List.length HL.out.2.2.1; have h4 := HL.out.1; simp only [snds, List.length_map] at h3; omega
          rw [List.take_of_length_le h2, HCN.out] at h1
          exact h1
        have hcz : ((c : Int) == (n7 : Int)) = true := by rw [beq_iff_eq]; have := HF.out; omega
        go_wp2_with fail
        go_ret
        exact ⟨rfl, H6.out.2.2.2.trans ((Grows.below HG.out).mono H6.out.2.2.2.size)⟩
end Go.Proofs.YtiiihjihegilnaaDoor
