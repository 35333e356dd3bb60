/- Contracts of the reference's Rollup and Cube. -/
import Derived.Test.YtiiihjihegilnaaDoorQcc
namespace Go.Proofs.YtiiihjihegilnaaDoor
open Go.RowKit Go.Sort

set_option maxRecDepth 100000 in
set_option maxHeartbeats 4000000 in
theorem refrollup_any (w : World) (v : Value) (dims : List Int) (h : Rds w v (iv dims)) (hn : dims.length ≤ 200) :
    Calls Tryd.prog 9 #[v] w fun e w' => ∃ v', e = .returned v' ∧ ∃ l, RdsS w' v' l ∧ snds l = rol dims ∧ Below w.heap.size w w' := by
  obtain ⟨i0, hi0, hy0, hy1, hy2⟩ := info_parts Tryd.info_ints
  obtain ⟨ao, n, cap, rfl⟩ := h.sl
  obtain ⟨e0, e1, e2, e3⟩ := h.ints
  have HH : Hid _ := h
  have HN : Hid (n = dims.length) := e0
  have hn2 : n ≤ 200 := by omega
  have HCL : Hid ((rol dims).length = n + 1) := by show _ = _; rw [rol_len, e0]
  have HCG : Aside (∀ j, j < n + 1 → ∃ h, (rol dims)[n - j]'h = dims.take j) := fun j hj => by
    subst e0
    exact ⟨_, rol_get dims j hj⟩
  clear h e0 e1 e3 hn
  unfold maxLen at e2
  go_enter Tryd.func9, Tryd.ntmps9
  go_wp2_with fail
  go_loopg [3, 4] (n + 1) (fun kx v3 v4 wr => ∃ (j : Nat) (l : List St), v4 = .int .i64 ((j : Int) - 1) ∧ j ≤ n + 1 ∧ j ≤ kx ∧ Hid (snds l = (rol dims).take (n + 1 - j) ∧ l.length = n + 1 - j ∧ ∀ s ∈ l, ∃ m, m ≤ n ∧ s = (.slice ao m cap, dims.take m)) ∧ Hid (wr.ownsRow w.heap.size 22 1 v3 l.length (l.map (·.1))) ∧ Hid (Below w.heap.size w wr))
  case atStart => exact ⟨n + 1, [], by first | rfl | (congr 1; omega) | (simp; omega), Nat.le_refl _, Nat.le_refl _, ⟨by simp [snds], by simp, fun _ h => by cases h⟩, World.ownsRow_nil _ _ _ _, Below.refl _ _⟩
  case round =>
    obtain ⟨j, l, rfl, hj, hkx, HR, HO, HB⟩ := hrel
    obtain ⟨a3, n3, c3, h3⟩ := own_sl HO.out
    subst h3
    cases j with
    | zero =>
      have hz : ¬ (0 : Int) ≤ ((0 : Nat) : Int) - 1 := by omega
      have HF : Hid (snds l = rol dims) := by
        show _ = _
        rw [HR.out.1, Nat.sub_zero, List.take_of_length_le (by rw [HCL.out]; exact Nat.le_refl _)]
      go_wp2_with fail
      go_ret
      refine ⟨_, rfl, l, ⟨RdsK.of_own HO.out, fun s hs => ?_⟩, HF.out, HB.out⟩
      obtain ⟨m, hm, rfl⟩ := HR.out.2.2 s hs
      exact Rds.take (Rds.below HH.out HB.out) (by have := HN.out; omega)
    | succ m =>
      have hm1 : ((m + 1 : Nat) : Int) - 1 = (m : Int) := by omega
      have hmz : (0 : Int) ≤ (m : Int) := by omega
      have hmn : (m : Int) ≤ (n : Int) := by omega
      have hmc : (m : Int) ≤ (cap : Int) := by have := (Rds.ints HH.out).2.1; omega
      have HST : Hid (snds l ++ [dims.take m] = (rol dims).take (n + 1 - m)) := by
        show _ = _
        obtain ⟨hp, hg⟩ := HCG.out m (by omega)
        have e1 : n + 1 - m = (n + 1 - (m + 1)) + 1 := by omega
        have e2 : n + 1 - (m + 1) = n - m := by omega
        rw [HR.out.1, e1, take_step _ _ (by rw [HCL.out]; omega)]
        congr 2
        simp only [e2]
        exact hg.symm
      have HR1 : Hid (RdsK 1 (wr.alloc (.cells #[.slice ao m cap] 22)) (.slice (some ⟨wr.heap.size, 0, none⟩) 1 1) 1 [.slice ao m cap]) := one_rdI wr _ _ _ rfl
      have HO1 : Hid ((wr.alloc (.cells #[.slice ao m cap] 22)).ownsRow w.heap.size 22 1 (.slice a3 n3 c3) l.length (l.map (·.1))) := HO.out.alloc _
      have HB1 : Hid (Below w.heap.size w (wr.alloc (.cells #[.slice ao m cap] 22))) := HB.out.alloc HB.out.size _
      have HOO : Aside (∀ u ∈ [Value.slice ao m cap], u.oneCell' = true) := fun u hu => by simp at hu; subst hu; rfl
      have hza : l.length + 1 ≤ maxLen := qmax _ (by have := HR.out.2.1; omega)
      have hzb' : ((l.length + 1) + (l.length + 1) / 4 + 192) * 24 ≤ 281474976710656 := qby _ _ (by have := HR.out.2.1; omega) (by omega)
      have hws5 : w.heap.size ≤ (wr.alloc (.cells #[.slice ao m cap] 22)).heap.size := HB1.out.size
      rw [hm1]
      go_wp2_with (first
        | (at_builtin; refine wpList_appK rfl _ _ 24 rfl w.heap.size 22 i0 (.slice none 0 0) 1 24 Tryd.underlying24 hi0 hy0 hy1 hy2 rfl (by decide) _ _ _ rfl HO1.out _ _ _ rfl HR1.out HOO.out hza hzb' hws5 ?_; intro v7 w7 hown7 hgrow7 hnil7))
      go_roundg m
      case measure => omega
      case rel =>
        refine ⟨m, l ++ [(.slice ao m cap, dims.take m)], by go_num, by omega, Nat.le_refl _, ⟨by rw [snds_app]; exact HST.out, by have := HR.out.2.1; simp; omega, fun s hs => ?_⟩, by show World.ownsRow _ _ _ _ _ _ _; rw [List.length_append, List.map_append]; exact hown7, HB1.out.grown hgrow7 hws5 fun k hk => (World.ownsRow.lt HO1.out k hk).1⟩
        rcases List.mem_append.1 hs with h | h
        · exact HR.out.2.2 s h
        · exact ⟨m, by omega, List.mem_singleton.1 h⟩
theorem OwS.mono {w : World} {base base' : Nat} {v : Value} {l : List St} (h : OwS w base v l) (hb : base' ≤ base) : OwS w base' v l := ⟨own_mono h.own hb, fun s hs => own_mono (h.each s hs) hb⟩
theorem OwS.addL {w w' : World} {base : Nat} {v v' : Value} {l m : List St} (h : OwS w base v l) (hs : ∀ s ∈ m, w.ownsRow base 3 1 s.1 s.2.length (iv s.2))
    (hg : w.grownBy w' v.ownBlock) (ho : w'.ownsRow base 22 1 v' (l.length + m.length) (l.map (·.1) ++ m.map (·.1))) : OwS w' base v' (l ++ m) := by
  refine ⟨by rw [List.length_append, List.map_append]; exact ho, fun x hx => ?_⟩
  have hk : w.ownsRow base 3 1 x.1 x.2.length (iv x.2) := (List.mem_append.1 hx).elim (h.each x) (hs x)
  exact own_grown hk hg fun g hgx => fun e => own_ne h.own hk (by decide) g e hgx
theorem rcub_len : ∀ d, (rcub d).length = 2 ^ d.length
  | [] => rfl
  | d :: r => by rw [rcub, List.length_append, List.length_map, rcub_len r, List.length_cons, Nat.pow_succ]; omega
theorem rcub_in : ∀ (d : List Int), ∀ s ∈ rcub d, s.length ≤ d.length
  | [], s, h => by simp [rcub] at h; subst h; simp
  | d :: r, s, h => by
    rw [rcub] at h
    rcases List.mem_append.1 h with h | h
    · obtain ⟨t, ht, rfl⟩ := List.mem_map.1 h
      have := rcub_in r t ht
      simp; omega
    · have := rcub_in r s h
      simp; omega
theorem St.ones (l : List St) {w : World} {base : Nat} (h : ∀ s ∈ l, w.ownsRow base 3 1 s.1 s.2.length (iv s.2)) : ∀ u ∈ l.map (·.1), u.oneCell' = true := fun u hu => by
  obtain ⟨s, hs, rfl⟩ := List.mem_map.1 hu
  obtain ⟨a, n, c, e⟩ := own_sl (h s hs)
  rw [e]; rfl
set_option maxRecDepth 100000 in
set_option maxHeartbeats 8000000 in
theorem refcube_any (w : World) (v : Value) (dims : List Int) (h : Rds w v (iv dims)) (hn : dims.length ≤ 6) :
    Calls Tryd.prog 10 #[v] w fun e w' => ∃ v', e = .returned v' ∧ ∃ l, RdsS w' v' l ∧ snds l = rcub dims ∧ Below w.heap.size w w' := by
  obtain ⟨i0, hi0, hy0, hy1, hy2⟩ := info_parts Tryd.info_ints
  obtain ⟨j0, hj0, hq0, hq1, hq2⟩ := info_parts Tryd.info_int
  obtain ⟨ao, n, cap, rfl⟩ := h.sl
  obtain ⟨e0, e1, e2, e3⟩ := h.ints
  have HH : Hid _ := h
  have HN : Hid (n = dims.length) := e0
  have hn6 : n ≤ 6 := by omega
  have hn6z : ¬ (6 : Int) < (n : Int) := by omega
  have HRL : Aside (∀ j, (rcub (dims.drop j)).length ≤ 64) := fun j => by
    rw [rcub_len]
    exact Nat.le_trans (Nat.pow_le_pow_right (by decide) (by rw [List.length_drop]; omega : (dims.drop j).length ≤ 6)) (by decide)
  have HRI : Aside (∀ j, ∀ s ∈ rcub (dims.drop j), s.length ≤ 6) := fun j s hs => by
    have := rcub_in _ s hs
    rw [List.length_drop] at this; omega
  clear h e0 e1 e3 hn
  unfold maxLen at e2
  go_enter Tryd.func10, Tryd.ntmps10
  go_wp2_with fail
  go_loopg [3, 4] n (fun kx v3 v4 wr => ∃ (j : Nat) (l : List St), v4 = .int .i64 ((j : Int) - 1) ∧ j ≤ n ∧ j ≤ kx ∧ Hid (snds l = rcub (dims.drop j)) ∧ Hid (OwS wr w.heap.size v3 l) ∧ Hid (Below w.heap.size w wr))
  case atStart =>
    refine ⟨n, [(.slice none 0 0, [])], by first | rfl | (congr 1; omega) | (simp; omega), Nat.le_refl _, Nat.le_refl _, ?_, ⟨own_full w _ #[.slice none 0 0] 1 (by decide) rfl, fun s hs => ?_⟩, (Below.refl _ _).alloc (Nat.le_refl _) _⟩
    · show _ = _; rw [List.drop_of_length_le (by have := HN.out; omega)]; rfl
    · rw [List.mem_singleton.1 hs]; exact World.ownsRow_nil _ _ _ _
  case round =>
    obtain ⟨j, l, rfl, hj, hkx, HR, HO, HB⟩ := hrel
    obtain ⟨a3, n3, c3, h3⟩ := own_sl HO.out.own
    subst h3
    obtain ⟨Wo, hWo⟩ : ∃ Wo, Wo = wr := ⟨_, rfl⟩
    subst hWo
    cases j with
    | zero =>
      have hz : ¬ (0 : Int) ≤ ((0 : Nat) : Int) - 1 := by omega
      go_wp2_with fail
      go_ret
      exact ⟨_, rfl, l, HO.out.rds, HR.out, HB.out⟩
    | succ m =>
      have hm1 : ((m + 1 : Nat) : Int) - 1 = (m : Int) := by omega
      have hmz : (0 : Int) ≤ (m : Int) := by omega
      have hmn : (m : Int) < (n : Int) := by omega
      have hml : m < dims.length := by have := HN.out; omega
      have hll : l.length ≤ 64 := by
        have h1 := congrArg List.length HR.out
        have h2 := HRL.out (m + 1)
        simp only [snds, List.length_map] at h1; omega
      obtain ⟨en, -, -, -⟩ := (HO.out.rds).at
      obtain ⟨x, hx⟩ : ∃ x, x = dims.getD m 0 := ⟨_, rfl⟩
      have HDR : Hid (rcub (dims.drop m) = (snds l).map (x :: ·) ++ snds l) := by
        show _ = _
        rw [HR.out, List.drop_eq_getElem_cons hml, rcub, hx]
        congr 2
        simp [hml]
      have HX : Hid _ := hx
      have HEN : Hid (n3 = l.length) := en
      have hn3 : n3 ≤ 64 := by omega
      clear hx en
      rw [hm1]
      go_wp2_with fail
      go_loopg [5, 6] n3 (fun kx v5 v6 wr => ∃ (k : Nat) (lw : List St), v6 = .int .i64 k ∧ k ≤ n3 ∧ n3 - k ≤ kx ∧ Hid (snds lw = ((snds l).take k).map (x :: ·) ∧ lw.length = k) ∧ Hid (OwS wr Wo.heap.size v5 lw) ∧ Hid (Below Wo.heap.size Wo wr))
      case atStart => exact ⟨0, [], rfl, by omega, by omega, ⟨by simp [snds], rfl⟩, OwS.nil _ _, Below.refl _ _⟩
      case round =>
        obtain ⟨k, lw, rfl, hk, hky, HK, HOW, HBW⟩ := hrel
        obtain ⟨a5, n5, c5, h5⟩ := own_sl HOW.out.own
        subst h5
        have HOo : Hid (OwS wr w.heap.size (.slice a3 n3 c3) l) := HO.out.up HBW.out
        have HBo : Hid (Below w.heap.size w wr) := HB.out.trans (HBW.out.mono HB.out.size)
        by_cases hlt : k < n3
        · have hltz : (k : Int) < (n3 : Int) := by omega
          have hkl : k < l.length := by have := HEN.out; omega
          obtain ⟨-, -, -, k1⟩ := HOo.out.rds.at
          obtain ⟨b3, o3, rfl, kc⟩ := k1 (by omega)
          have cK := kc k hkl
          obtain ⟨-, -, -, q1⟩ := (Rds.below HH.out HBo.out).ints
          obtain ⟨bd, od, rfl, qc⟩ := q1 (by omega)
          have cD := qc m hml
          rw [← HX.out] at cD
          obtain ⟨s, hs⟩ : ∃ s, s = l[k].2 := ⟨_, rfl⟩
          obtain ⟨a8, n8, c8, h8⟩ := own_sl (HOo.out.each _ (List.getElem_mem hkl))
          have rK := Rds.k1 (HOo.out.rds.ok _ (List.getElem_mem hkl))
          rw [h8] at cK rK
          rw [← hs] at rK
          have hsl : s.length ≤ 6 := HRI.out (m + 1) s (by rw [← HR.out, hs]; exact List.mem_map.2 ⟨_, List.getElem_mem hkl, rfl⟩)
          have HSK : Hid (snds lw ++ [x :: s] = ((snds l).take (k + 1)).map (x :: ·)) := by
            show _ = _
            have hk2 : k < (snds l).length := by simp [snds, hkl]
            rw [take_step _ _ hk2, List.map_append, HK.out.1]
            congr 2
            simp [snds, hs]
          obtain ⟨Y, hY⟩ : ∃ Y, Y = wr.alloc (.cells #[.int .i64 x] 3) := ⟨_, rfl⟩
          have gY : Below wr.heap.size wr Y := by rw [hY]; exact (Grows.alloc _ _).below
          have HR0 : Hid (RdsK 1 Y (.slice a8 n8 c8) s.length (iv s)) := rK.below gY
          have HO0 : Hid (Y.ownsRow wr.heap.size 3 1 (.slice (some ⟨wr.heap.size, 0, none⟩) 1 1) 1 [.int .i64 x]) := by rw [hY]; exact own_full wr _ #[.int .i64 x] 1 (by decide) rfl
          have HOO0 : Aside (∀ u ∈ iv s, u.oneCell' = true) := iv_one _
          have HBY : Hid (Below wr.heap.size wr Y) := gY
          have cK := cell_up gY cK
          have hza0 : 1 + s.length ≤ maxLen := qmax _ (by omega)
          have hzb0 : ((1 + s.length) + (1 + s.length) / 4 + 192) * 8 ≤ 281474976710656 := qby _ _ (by omega) (by omega)
          have hws0 : wr.heap.size ≤ Y.heap.size := gY.size
          have hza : lw.length + 1 ≤ maxLen := qmax _ (by have := HK.out.2; omega)
          have hzb' : ((lw.length + 1) + (lw.length + 1) / 4 + 192) * 24 ≤ 281474976710656 := qby _ _ (by have := HK.out.2; omega) (by omega)
          rw [hY] at HR0 HO0 HBY hws0 cK
          clear rK gY hY k1 kc q1 qc hs h8
          go_wp2_with (first
            | (at_builtin; refine wpList_appK rfl (.tmp 31) (.tmp 35) 22 rfl wr.heap.size 3 j0 (.int .i64 0) 1 8 Tryd.underlying22 hj0 hq0 hq1 hq2 rfl (by decide) _ _ _ rfl HO0.out _ _ _ rfl HR0.out HOO0.out hza0 hzb0 hws0 ?_; intro v6 w6 hown6 hgrow6 hnil6; obtain ⟨a6, n6, c6, h6⟩ := own_sl hown6; subst h6; have b6 : Below wr.heap.size wr w6 := HBY.out.grown hgrow6 hws0 (fun k hk => (World.ownsRow.lt HO0.out k hk).1); have g6 : Below w6.heap.size w6 (w6.alloc (.cells #[.slice a6 n6 c6] 22)) := (Grows.alloc _ _).below; have HS6 : Hid (OwS (w6.alloc (.cells #[.slice a6 n6 c6] 22)) Wo.heap.size (.slice a5 n5 c5) lw) := (HOW.out.up b6).up g6; have HO6 : Hid ((w6.alloc (.cells #[.slice a6 n6 c6] 22)).ownsRow Wo.heap.size 3 1 (.slice a6 n6 c6) (1 + s.length) ([.int .i64 x] ++ iv s)) := own_mono (own_below hown6 g6) HBW.out.size; have HB6 : Hid (Below Wo.heap.size Wo (w6.alloc (.cells #[.slice a6 n6 c6] 22))) := HBW.out.trans ((b6.trans (g6.mono b6.size)).mono HBW.out.size); have hws6 : Wo.heap.size ≤ (w6.alloc (.cells #[.slice a6 n6 c6] 22)).heap.size := HB6.out.size; have HOO6 : Aside (∀ u ∈ [Value.slice a6 n6 c6], u.oneCell' = true) := (fun u hu => by simp at hu; subst hu; rfl); clear b6 g6 hown6 hgrow6 hnil6)
            | (at_builtin; refine wpList_appK rfl (.tmp 30) (.tmp 37) 24 rfl Wo.heap.size 22 i0 (.slice none 0 0) 1 24 Tryd.underlying24 hi0 hy0 hy1 hy2 rfl (by decide) _ _ _ rfl HS6.out.own _ _ _ rfl (one_rdI w6 _ _ _ rfl) HOO6.out hza hzb' hws6 ?_; intro v7 w7 hown7 hgrow7 hnil7))
          go_roundg (n3 - (k + 1))
          case measure => omega
          case rel => exact ⟨k + 1, lw ++ [(.slice a6 n6 c6, x :: s)], by go_num, by omega, Nat.le_refl _, ⟨by rw [snds_app]; exact HSK.out, by have := HK.out.2; simp; omega⟩, OwS.add HS6.out (by simp only []; rw [List.length_cons, Nat.add_comm]; exact HO6.out) hgrow7 hown7, HB6.out.grown hgrow7 hws6 fun k hk => (World.ownsRow.lt HS6.out.own k hk).1⟩
        · have hltz : ¬ (k : Int) < (n3 : Int) := by omega
          have ek : k = l.length := by have := HEN.out; omega
          have HF : Hid (snds (lw ++ l) = rcub (dims.drop m)) := by
            show _ = _
            rw [snds_app, HDR.out, HK.out.1, List.take_of_length_le (by simp [snds, ek])]
          have HOm : Hid (OwS wr w.heap.size (.slice a5 n5 c5) lw) := HOW.out.mono HB.out.size
          have HRo : Hid (RdsK 1 wr (.slice a3 n3 c3) l.length (l.map (·.1))) := HOo.out.rds.r
          have HOO : Aside (∀ u ∈ l.map (·.1), u.oneCell' = true) := St.ones l HOo.out.each
          have hza : lw.length + l.length ≤ maxLen := qmax _ (by have := HK.out.2; omega)
          have hzb' : ((lw.length + l.length) + (lw.length + l.length) / 4 + 192) * 24 ≤ 281474976710656 := qby _ _ (by have := HK.out.2; omega) (by omega)
          have hws5 : w.heap.size ≤ wr.heap.size := HBo.out.size
          clear ek
          go_wp2_with (first
            | (at_builtin; refine wpList_appK rfl (.tmp 39) (.tmp 40) 24 rfl w.heap.size 22 i0 (.slice none 0 0) 1 24 Tryd.underlying24 hi0 hy0 hy1 hy2 rfl (by decide) _ _ _ rfl HOm.out.own _ _ _ rfl HRo.out HOO.out hza hzb' hws5 ?_; intro v7 w7 hown7 hgrow7 hnil7))
          go_roundg m
          case measure => omega
          case rel => exact ⟨m, lw ++ l, by go_num, by omega, Nat.le_refl _, HF, OwS.addL HOm.out HOo.out.each hgrow7 hown7, HBo.out.grown hgrow7 hws5 fun k hk => (World.ownsRow.lt HOm.out.own k hk).1⟩
end Go.Proofs.YtiiihjihegilnaaDoor
