/- The contract of Union. -/
import Derived.Test.YthijbpodkklcnaaSort
import Derived.Test.YthijbpodkklcnaaRPrt
namespace Go.Proofs.Ythijbpodkklcnaa
open Go.RowKit Go.Sort

theorem room16 {k n : Nat} (h : k ≤ n) (hb : (n + 2) * 16 ≤ 160842843834660) : k + 1 ≤ maxLen ∧ ((k + 1) + (k + 1) / 4 + 192) * 16 ≤ 281474976710656 := by
  unfold maxLen; omega
theorem ust_length (o : List Sp) (s : Sp) : (ust o s).length ≤ o.length + 1 := by unfold ust; split <;> simp
theorem ustf_length : ∀ (l : List Sp) (o : List Sp), (l.foldl ust o).length ≤ o.length + l.length
  | [], o => by simp
  | s :: l, o => by
    have h1 := ustf_length l (ust o s)
    have h2 := ust_length o s
    simp only [List.foldl_cons, List.length_cons]; omega

set_option maxHeartbeats 4000000 in
theorem union_any (w : World) (v : Value) (l : List Sp) (h : RdP w v l) (hbig : (l.length + 2) * 16 ≤ 160842843834660) :
    Calls Try.prog 20 #[v] w fun e w' => ∃ v', e = .returned v' ∧ ∃ r, OwP w' w.heap.size v' r ∧ Norm r ∧ (∀ t, any r t = any l t) ∧ r.length ≤ l.length ∧ Below w.heap.size w w' := by
  obtain ⟨i0, hi, hz0, hz1, hz2⟩ := info_parts Try.info_span
  have HOne : Aside (∀ l : List Sp, ∀ v ∈ pv l, v.oneCell' = true) := pv_one
  have kB := byFrom_any w v l h (by omega)
  obtain ⟨ao, n0, cap, rfl⟩ := h.sl
  clear h
  go_enter Try.func20, Try.ntmps20
  go_wp2_with fail
  refine kB.mono ?_
  rintro e w1 ⟨v1, rfl, l', hp, hr, rd, ls, b1⟩
  have hfull : ∀ q ∈ l', q.1 < q.2 := fun q hq => by
    have := (List.mem_filter.1 (hp.mem_iff.1 hq)).2
    simp [emp] at this; omega
  have hlen : l'.length ≤ l.length := by rw [hp.length_eq]; exact List.length_filter_le _ _
  have hany : ∀ t, any l' t = any l t := fun t => by rw [any_perm hp, any_full]
  obtain ⟨a1, n, c1, rfl⟩ := rd.sl
  obtain ⟨hn, k1, k2, -⟩ := rd.at
  unfold maxLen at k2
  have HN : Hid (n = l'.length ∧ l'.length ≤ l.length) := ⟨hn, hlen⟩
  have HF : Hid _ := And.intro hr (And.intro hfull hany)
  have HRd : Hid (RdP w1 (.slice a1 n c1) l') := rd
  have HB1 : Hid _ := b1
  have hbn : (n + 2) * 16 ≤ 160842843834660 := by omega
  clear kB hp hr hfull hany hlen ls b1 rd hn hbig
  go_wp2_with fail
  go_loopg [3, 10] n (fun kx v3 vi wr => ∃ (i m : Nat) (out : List Sp), vi = .int .i64 i ∧ i ≤ n ∧ n - i ≤ kx ∧ m ≤ i ∧ Hid (m = out.length) ∧ Hid (OwP wr w1.heap.size v3 out) ∧ Hid (out = (l'.take i).foldl ust []) ∧ Hid (Below w1.heap.size w1 wr))
  case atStart => exact ⟨0, 0, [], rfl, by omega, Nat.le_refl _, Nat.le_refl _, rfl, OwP.nil _ _, rfl, Below.refl _ _⟩
  case round =>
    obtain ⟨i, m, out, rfl, hin, hkx, hmi, HM, HO, HX, HBr⟩ := hrel
    obtain ⟨a3, n3, c3, hv⟩ := own_sl HO.out
    subst hv
    have h3 : n3 = m := by rw [HM.out]; exact HO.out.rd.at.1
    subst h3
    by_cases hlt : i < n
    · have hltz : (i : Int) < (n : Int) := by omega
      have hil : i < l'.length := by have := HN.out.1; omega
      have hr := HRd.out.below HBr.out
      obtain ⟨-, -, -, hk⟩ := hr.at
      obtain ⟨b, off, rfl, hcl⟩ := hk (by omega)
      obtain ⟨q0, q1⟩ := hcl i hil
      have htk : l'.take (i + 1) = l'.take i ++ [l'[i]] := List.take_succ_eq_append_getElem hil
      have HX2 : Hid ((l'.take (i + 1)).foldl ust [] = ust out l'[i]) := by show _ = _; rw [htk, List.foldl_append, ← HX.out]; rfl
      generalize l'[i] = x at *
      obtain ⟨F, T⟩ := x
      simp only at q0 q1
      obtain ⟨w5, hW⟩ : ∃ W, W = wr.alloc (.cells #[.int .i64 F, .int .i64 T] 23) := ⟨_, rfl⟩
      have bW : Below wr.heap.size wr w5 := by rw [hW]; exact (Below.refl _ _).alloc (Nat.le_refl _) _
      have HO5 : Hid (OwP w5 w1.heap.size (.slice a3 n3 c3) out) := HO.out.below bW
      have HB5 : Hid (Below w1.heap.size w1 w5) := HBr.out.trans (bW.mono HBr.out.size)
      have x0 : w5.cell? ⟨wr.heap.size, 0, none⟩ = some (.int .i64 F) := by rw [hW]; simp
      have x1 : w5.cell? ⟨wr.heap.size, 1, none⟩ = some (.int .i64 T) := by rw [hW]; simp
      have HW : Hid _ := hW
      have hml := HM.out
      have hn3b : n3 ≤ n := by omega
      have hwr : w1.heap.size ≤ wr.heap.size := HBr.out.size
      have hlast : wr.heap.size < w5.heap.size := by rw [hW]; simp
      clear hcl htk hk hr hW bW
      have HZZ : Hid (out.length + 1 ≤ maxLen ∧ ((out.length + 1) + (out.length + 1) / 4 + 192) * 16 ≤ 281474976710656) := room16 (n := n) (by omega) hbn
      rcases Nat.eq_zero_or_pos n3 with hz | hp
      · have ho : out = [] := List.eq_nil_of_length_eq_zero (by omega)
        have HP3 : Hid (ust out (F, T) = out ++ [(F, T)]) := by show _ = _; rw [ho, ust_nil]; rfl
        subst hz
        clear ho hml
        go_wp2_with fail
        rw [← HW.out]
        go_quiet (fail)
        obtain ⟨U, hU⟩ : ∃ U, U = w5.drewN nq := ⟨_, rfl⟩
        have u0 : U.cell? ⟨wr.heap.size, 0, none⟩ = some (.int .i64 F) := by rw [hU]; exact x0
        have u1 : U.cell? ⟨wr.heap.size, 1, none⟩ = some (.int .i64 T) := by rw [hU]; exact x1
        have gU : Grows w5 U := by rw [hU]; exact Grows.drewN _ _
        rw [← hU]
        have gV : Grows U (U.alloc (.cells #[.int .i64 F, .int .i64 T] 23)) := Grows.alloc _ _
        have HOV : Hid ((U.alloc (.cells #[.int .i64 F, .int .i64 T] 23)).ownsRow w1.heap.size 23 2 (.slice a3 0 c3) out.length (pv out)) := HO5.out.below (gU.trans gV).below
        have HVR : Hid (RdsK 2 (U.alloc (.cells #[.int .i64 F, .int .i64 T] 23)) (.slice (some ⟨U.heap.size, 0, none⟩) 1 1) 1 (pv [(F, T)])) := one_rds U (F, T) _ rfl
        have hsV : w1.heap.size ≤ (U.alloc (.cells #[.int .i64 F, .int .i64 T] 23)).heap.size := Nat.le_trans HB5.out.size (gU.trans gV).below.size
        have HVB : Hid (Below w1.heap.size w1 (U.alloc (.cells #[.int .i64 F, .int .i64 T] 23))) := HB5.out.trans ((gU.trans gV).below.mono HB5.out.size)
        obtain ⟨hza, hzc⟩ := HZZ.out
        clear hU gU gV x0 x1
        go_wp2_with (first
          | (at_builtin; refine wpList_appK rfl _ _ 28 rfl w1.heap.size 23 i0 (.agg #[.int .i64 0, .int .i64 0]) 2 16 Try.underlying28 hi hz0 hz1 hz2 rfl (by decide) _ _ _ rfl HOV.out _ _ _ rfl HVR.out (HOne.out _) hza hzc hsV ?_; intro v9 w9 hown9 hgrow9 hnil9; clear hnil9))
        go_roundg (n - (i + 1))
        case measure => omega
        case rel =>
          refine ⟨i + 1, 0 + 1, out ++ [(F, T)], by go_num, by omega, Nat.le_refl _, by omega, ?_, ?_, ?_, HVB.out.grown hgrow9 hsV (fun j hj => (World.ownsRow.lt HOV.out j hj).1)⟩
          · show _ = _
            rw [List.length_append, ← HM.out]; rfl
          · show OwP _ _ _ _
            unfold OwP; rw [pv_app, List.length_append]; exact hown9
          · show _ = _
            rw [HX2.out, HP3.out]
      · obtain ⟨k, rfl⟩ : ∃ k, n3 = k + 1 := ⟨n3 - 1, by omega⟩
        rcases HO5.out.2 with ⟨hnil, hn0⟩ | ⟨g, cap, cur, hv, hbg, hgb, hnc, hcm, hcs, htk⟩
        · omega
        · simp only [Value.slice.injEq] at hv
          obtain ⟨rfl, -, rfl⟩ := hv
          have HBG : Hid (w1.heap.size ≤ g) := hbg
          have hgl : g < wr.heap.size := (World.ownsRow.lt HO.out g rfl).2
          have hgn : ¬ g = wr.heap.size := by omega
          have hgn2 : ¬ wr.heap.size = g := by omega
          have hlt7 : k < out.length := by omega
          have HOx : w5.ownsRow w1.heap.size 23 2 (.slice (some ⟨g, 0, none⟩) (k + 1) c3) (k + 1) (pv out) := by have := HO5.out; unfold OwP at this; rw [← hml] at this; exact this
          have p0 : w5.cell? ⟨g, k * 2, none⟩ = some (.int .i64 (out[k]'hlt7).1) := by
            rw [World.ownsRow.cellAt HOx _ (by omega)]
            have := pv_get out k 0 hlt7 (by decide)
            simpa [pc] using this
          have p1 : w5.cell? ⟨g, k * 2 + 1, none⟩ = some (.int .i64 (out[k]'hlt7).2) := by
            rw [World.ownsRow.cellAt HOx _ (by omega)]
            have := pv_get out k 1 hlt7 (by decide)
            simpa [pc] using this
          have pf : w5.frozen? ⟨g, k * 2 + 1, none⟩ = false := World.ownsRow.frozenAt HOx _
          have hst := fun y => World.ownsRow.stored HOx (k * 2 + 1) (.int .i64 y)
          have hst2 : ∀ y : Int, (w5.setCell ⟨g, k * 2 + 1, none⟩ (.int .i64 y)).ownsRow w1.heap.size 23 2 (.slice (some ⟨g, 0, none⟩) (k + 1) c3) (k + 1) (pv (out.set k ((out[k]'hlt7).1, y))) := fun y => by
            rw [pv_set2 out k hlt7 y]; exact (hst y).1
          have hps : ust out (F, T) = if F ≤ (out[k]'hlt7).2 then out.set k ((out[k]'hlt7).1, max (out[k]'hlt7).2 T) else out ++ [(F, T)] := by
            unfold ust
            rw [← hml]
            have hgd : out.getD (k + 1 - 1) (0, 0) = out[k]'hlt7 := by simp [hlt7]
            rw [hgd]
            by_cases c : F ≤ (out[k]'hlt7).2
            · rw [if_pos ⟨by omega, c⟩, if_pos c]; rfl
            · rw [if_neg (fun h => c h.2), if_neg c]
          have HSt : Aside _ := hst2
          generalize out[k]'hlt7 = p at *
          obtain ⟨P1, P2⟩ := p
          simp only at p0 p1 hps HSt
          clear hst hst2 HOx hbg hgb hnc hcm hcs htk hlt7 p0
          have hk0 : (k : Int) < ((k + 1 : Nat) : Int) := by omega
          by_cases he : F ≤ P2
          · rw [if_pos he] at hps
            have HP3 : Hid _ := hps
            have HL : Hid (k + 1 = (out.set k (P1, max P2 T)).length) := by show _ = _; rw [List.length_set]; exact hml
            have hed : decide (F ≤ P2) = true := by simp [he]
            clear hps hml
            go_wp2_with fail
            rw [← HW.out]
            go_quiet (fail)
            go_wp2_with fail
            obtain ⟨U, hU⟩ : ∃ U, U = w5.drewN nq := ⟨_, rfl⟩
            have u1 : U.cell? ⟨wr.heap.size, 1, none⟩ = some (.int .i64 T) := by rw [hU]; exact x1
            have u2 : U.cell? ⟨g, k * 2 + 1, none⟩ = some (.int .i64 P2) := by rw [hU]; exact p1
            have u3 : U.frozen? ⟨g, k * 2 + 1, none⟩ = false := by rw [hU]; exact pf
            rw [← hU]
            have HU : Hid _ := hU
            have hkn : k < k + 1 := Nat.lt_succ_self k
            have hki : 0 ≤ (k : Int) := by omega
            clear hU x0 x1 p1 pf
            go_region
            all_goals
              go_wp2_with fail
              go_roundg (n - (i + 1))
              case measure => omega
              case rel =>
                refine ⟨i + 1, k + 1, out.set k (P1, max P2 T), by go_num, by omega, Nat.le_refl _, by omega, HL.out, ?_, ?_, ?_⟩
                · show OwP _ _ _ _
                  unfold OwP
                  rw [← HL.out, HU.out]
                  exact HSt.out _
                · show _ = _
                  rw [HX2.out, HP3.out]
                · show Below _ _ _
                  rw [HU.out]
                  first
                    | exact (below_dN (below_dN HB5.out _) 1).setCell HBG.out _
                    | exact below_dN ((below_dN HB5.out _).setCell HBG.out _) 1
          · rw [if_neg he] at hps
            have HP3 : Hid _ := hps
            have hed : decide (F ≤ P2) = false := by simp [he]
            clear hps hml
            go_wp2_with fail
            rw [← HW.out]
            go_quiet (fail)
            obtain ⟨U, hU⟩ : ∃ U, U = w5.drewN nq := ⟨_, rfl⟩
            have u0 : U.cell? ⟨wr.heap.size, 0, none⟩ = some (.int .i64 F) := by rw [hU]; exact x0
            have u1 : U.cell? ⟨wr.heap.size, 1, none⟩ = some (.int .i64 T) := by rw [hU]; exact x1
            have gU : Grows w5 U := by rw [hU]; exact Grows.drewN _ _
            rw [← hU]
            have gV : Grows U (U.alloc (.cells #[.int .i64 F, .int .i64 T] 23)) := Grows.alloc _ _
            have HOV : Hid ((U.alloc (.cells #[.int .i64 F, .int .i64 T] 23)).ownsRow w1.heap.size 23 2 (.slice (some ⟨g, 0, none⟩) (k + 1) c3) out.length (pv out)) := HO5.out.below (gU.trans gV).below
            have HVR : Hid (RdsK 2 (U.alloc (.cells #[.int .i64 F, .int .i64 T] 23)) (.slice (some ⟨U.heap.size, 0, none⟩) 1 1) 1 (pv [(F, T)])) := one_rds U (F, T) _ rfl
            have hsV : w1.heap.size ≤ (U.alloc (.cells #[.int .i64 F, .int .i64 T] 23)).heap.size := Nat.le_trans HB5.out.size (gU.trans gV).below.size
            have HVB : Hid (Below w1.heap.size w1 (U.alloc (.cells #[.int .i64 F, .int .i64 T] 23))) := HB5.out.trans ((gU.trans gV).below.mono HB5.out.size)
            obtain ⟨hza, hzc⟩ := HZZ.out
            clear hU gU gV x0 x1
            go_wp2_with (first
              | (at_builtin; refine wpList_appK rfl _ _ 28 rfl w1.heap.size 23 i0 (.agg #[.int .i64 0, .int .i64 0]) 2 16 Try.underlying28 hi hz0 hz1 hz2 rfl (by decide) _ _ _ rfl HOV.out _ _ _ rfl HVR.out (HOne.out _) hza hzc hsV ?_; intro v9 w9 hown9 hgrow9 hnil9; clear hnil9))
            go_roundg (n - (i + 1))
            case measure => omega
            case rel =>
              refine ⟨i + 1, (k + 1) + 1, out ++ [(F, T)], by go_num, by omega, Nat.le_refl _, by omega, ?_, ?_, ?_, HVB.out.grown hgrow9 hsV (fun j hj => (World.ownsRow.lt HOV.out j hj).1)⟩
              · show _ = _
                rw [List.length_append, ← HM.out]; rfl
              · show OwP _ _ _ _
                unfold OwP; rw [pv_app, List.length_append]; exact hown9
              · show _ = _
                rw [HX2.out, HP3.out]
    · have hltz : ¬ (i : Int) < (n : Int) := by omega
      go_wp2_with fail
      go_ret
      obtain ⟨g1, g2, g3⟩ := HF.out
      have hx := HX.out
      rw [List.take_of_length_le (by have := HN.out.1; omega)] at hx
      have hu := uni_norm g1 g2
      rw [← hx] at hu
      have hN := HN.out
      have hm := HM.out
      exact ⟨_, rfl, out, HO.out.mono HB1.out.size, hu.1, (fun t => by rw [hu.2, g3]), by omega, HB1.out.trans (HBr.out.mono HB1.out.size)⟩
end Go.Proofs.Ythijbpodkklcnaa
