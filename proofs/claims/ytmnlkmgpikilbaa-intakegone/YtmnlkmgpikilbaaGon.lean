/- IntakeGone's walk. -/
import Derived.Test.YtmnlkmgpikilbaaGn0
namespace Go.Proofs.Ytmnlkmgpikilbaa
open Go.RowKit Go.Maps Go.Sort
set_option linter.unusedVariables false

set_option maxRecDepth 20000 in
set_option maxHeartbeats 16000000 in
theorem gone_walk (W : World) (ta : Option Addr) (tn tc : Nat) (ts : List Int) (ht : RdC W ta tn (i64s ts)) (htr : ∀ t ∈ ts, -9223372036854775808 ≤ t ∧ t ≤ 9223372036854775807) (pa : Option Addr) (pn pc : Nat) (ps : List Int) (hp : RdC W pa pn (i64s ps)) (hpr : ∀ t ∈ ps, -9223372036854775808 ≤ t ∧ t ≤ 9223372036854775807) (htc : tn ≤ tc) (hpc : pn ≤ pc) :
    Calls Try.prog 6 #[.slice ta tn tc, .slice pa pn pc] W fun e W' => e = .returned (.bool true) ∧ Below W.heap.size W W' := by
  have HT := hide ht
  have HTR := hide htr
  have HP := hide hp
  have HPR := hide hpr
  have hf1 := ht.fit
  have hf2 := hp.fit
  unfold maxLen at hf1 hf2
  obtain ⟨i0, z0, hi0, hz0, hz1, hz2, hz3⟩ := info_partsI Try.info_u64I
  clear ht htr hp hpr
  go_enter Try.func6, Try.ntmps6
  go_upto_region 10 with (first
    | (go_at_call 9
       refine (awake_any W).mono ?_
       rintro e w1 ⟨he1, hb1⟩
       subst he1
       have HB1 := hide hb1
       clear hb1)
    | (go_at_call 10
       refine (St.new w1 5 (by constructor <;> decide) 0 (by decide)).mono ?_
       rintro e w2 ⟨x, he2, hs2⟩
       subst he2
       have HS2 := hide hs2
       clear hs2))
  go_loopg [8, 9, 10] tn (fun kx v8 v9 v10 wr => ∃ (i n : Nat) (Z : List Kp) (o : Kp) (sv xe : Value), xe = v8 ∧ v9 = .int .u64 (n : Int) ∧ v10 = .int .i64 (i : Int) ∧ i ≤ tn ∧ i ≤ 12 ∧ n ≤ 9 * i ∧ tn - i ≤ kx ∧ o.ts = [] ∧ Z.length = i ∧ Hid (StE w1 wr x 5 sv Z o xe (Z.map Kp.up)) ∧ Hid (ChZ Z o (gs n)) ∧ Hid (ChN Z o))
  case atStart => exact ⟨0, 0, [], _, _, _, rfl, rfl, rfl, Nat.zero_le _, Nat.zero_le _, Nat.le_refl _, Nat.le_refl _, rfl, rfl, StE.of HS2.out, ChZ.new, ChN.nil _⟩
  case round =>
    obtain ⟨i, n, Z, o, sv, xe, hxe, rfl, rfl, hi, hi2, hn9, hkx, hots, hZl, HS, HC, HN⟩ := hrel
    subst hxe
    by_cases hlt : i < tn ∧ i < 12
    · have hl1 : (i : Int) < (tn : Int) := by omega
      have hl2 : (i : Int) < 12 := by omega
      as_aux_lemma =>
        have hnl : i < ts.length := by have := HT.out.len; simp [i64s] at this; omega
        obtain ⟨t0, ht0⟩ : ∃ t, t = ts[i] := ⟨_, rfl⟩
        have htm : -9223372036854775808 ≤ t0 ∧ t0 ≤ 9223372036854775807 := HTR.out t0 (by rw [ht0]; exact List.getElem_mem hnl)
        obtain ⟨tb, tq, hta, htc0⟩ := HT.out.at' i (.int .i64 t0) (by unfold i64s; rw [ht0]; simp [hnl])
        subst hta
        obtain ⟨mt, hmt⟩ : ∃ m, m = ab t0 := ⟨_, rfl⟩
        have hmt1 : mt ≤ 9223372036854775807 := by rw [hmt]; exact ab_le t0 htm
        have kT := fun w => abs_any w t0 htm
        rw [← hmt] at kT
        obtain ⟨m, hm⟩ : ∃ m, m = 1 + mt % 9 := ⟨_, rfl⟩
        have hmz : 1 + (mt : Int) % 9 = (m : Int) := by omega
        have hm1 : 1 ≤ m ∧ m ≤ 9 := by omega
        have HTC := hide htc0
        have hup : o.up = n := by rw [HC.out.up, gs_length]
        have hofr : o.fr = n := by have := HC.out.r; rw [hots] at this; simp at this; omega
        have hnum := HC.out.n
        rw [hZl] at hnum
        have HFR := hide hofr
        have HNU := hide hnum
        have HZL := hide hZl
        clear hmt hm ht0 htc0 hup hofr hnum hots hZl
        go_upto_region 13 with fail
        go_loopg [9, 11] m (fun kx v9 v11 wq => ∃ (k n' : Nat) (o' : Kp), v9 = .int .u64 (n' : Int) ∧ v11 = .int .i64 (k : Int) ∧ k ≤ m ∧ m - k ≤ kx ∧ n' = n + k ∧ o'.fr = o.fr ∧ o'.num = o.num ∧ Hid (StE w1 wq x 5 sv Z o' xe (Z.map Kp.up)) ∧ Hid (ChZ Z o' (gs n')))
        case atStart => exact ⟨0, n, o, rfl, rfl, Nat.zero_le _, Nat.le_refl _, rfl, rfl, rfl, HS.out, HC.out⟩
        case round =>
          obtain ⟨k, n', o', rfl, rfl, hk, hkx2, hn', hof, hon, HSQ, HCQ⟩ := hrel
          have d0 := cell_upB (HB1.out.trans (HSQ.out.bl.mono HB1.out.size)) HTC.out
          have hup' : o'.up = n' := by rw [HCQ.out.up, gs_length]
          have HUP := hide hup'
          have HOF := hide hof
          have HON := hide hon
          have HNN := hide hn'
          have hnb : n' ≤ 200 := by omega
          clear hup' hof hon hn'
          by_cases hkm : k < m
          · have hkz : (k : Int) < (m : Int) := by omega
            obtain ⟨n1, hn1⟩ : ∃ n1, n1 = n' + 1 := ⟨_, rfl⟩
            have hn1z : (n' : Int) + 1 = (n1 : Int) := by omega
            have hn1b : (n1 : Int) ≤ 300 := by omega
            obtain ⟨q, hq⟩ : ∃ q, q = n1 % 23 := ⟨_, rfl⟩
            have hqz : (n1 : Int) % 23 = (q : Int) := by omega
            have hq1 : q < 23 := by omega
            have HQ : Hid (((((n' + 1) % 23 : Nat) : Int)) = (q : Int)) := by apply hide; rw [hq, hn1]
            have HN1 := hide hn1
            clear hq hn1
            go_wp2_with (first
              | (go_at_call 17; refine (kT _).mono ?_; rintro e w4 ⟨he4, hw4⟩; have hw4 := hw4.symm; subst he4; subst hw4)
              | (go_at_call 19
                 refine (at_any (q : Int) _).mono ?_
                 rintro e w5 ⟨he5, hg5⟩
                 subst he5
                 have HS5 := hide (HSQ.out.up hg5.below)
                 clear hg5)
              | (go_at_call 18
                 refine (HS5.out.good (by decide) (by have := HUP.out; omega) n1 (by have := HUP.out; have := HN1.out; omega) (q : Int) ⟨by omega, by omega⟩).mono ?_
                 rintro e w6 ⟨he6, v6, hs6⟩
                 subst he6
                 have HS6 := hide hs6
                 clear hs6))
            have HC6 := hide (HCQ.out.take v6 (q : Int))
            rw [← HQ.out, ← gs_succ, ← HN1.out] at HC6
            rw [← HQ.out, ← HN1.out] at HS6
            go_roundg (m - (k + 1))
            case measure => omega
            case rel => exact ⟨k + 1, n1, { num := o'.num, fr := o'.fr, up := o'.up + 1, v := v6, ts := o'.ts ++ [((n1 % 23 : Nat) : Int)] }, rfl, rfl, hkm, Nat.le_refl _, by have := HN1.out; have := HNN.out; omega, HOF.out, HON.out, HS6.out, HC6.out⟩
          · have hke : k = m := by omega
            have hkz : ¬ (k : Int) < (m : Int) := by omega
            have hfu : o'.fr < o'.up := by have := HUP.out; have := HOF.out; have := HFR.out; have := HNN.out; omega
            have kS := HSQ.out.sealGood (by constructor <;> decide) hfu (by have := HZL.out; omega) (by have := HUP.out; omega) (by have := HON.out; have := HNU.out; omega)
            obtain ⟨i1, hi1⟩ : ∃ j, j = i + 1 := ⟨_, rfl⟩
            have hi1z : (i : Int) + 1 = (i1 : Int) := by omega
            have hi1b : (i1 : Int) ≤ 100 := by omega
            have HI1 := hide hi1
            obtain ⟨j2, hj2⟩ : ∃ j, j = o'.fr := ⟨_, rfl⟩
            have hni : o'.num = (i1 : Int) := by rw [HON.out, HNU.out, HI1.out]; omega
            have HNI := hide hni
            rw [hni, HUP.out, ← hj2] at kS
            clear hni
            have hel : (Z.map Kp.up).length = i := by rw [List.length_map]; exact HZL.out
            have HEL := hide hel
            clear hj2 hi1 hel
            go_upto_region 19 with (first
              | (go_at_call 17; refine (kT _).mono ?_; rintro e w4 ⟨he4, hw4⟩; have hw4 := hw4.symm; subst he4; subst hw4)
              | (go_at_call 20
                 refine kS.mono ?_
                 rintro e w7 ⟨v7, he7, ⟨va7, vn7, vc7, hv7⟩, sv7, hs7⟩
                 subst hv7
                 subst he7
                 have HS7 := hide hs7
                 clear hs7 kS))
            have hbW : Below w7.heap.size w7 (w7.alloc (.cells #[.int .i64 (i1 : Int), .int .u64 (j2 : Int), .int .u64 (n' : Int), .slice va7 vn7 vc7] 51)) := (Below.refl _ _).alloc (Nat.le_refl _) _
            have HS8 := hide (HS7.out.up hbW)
            have hX : BxA (w7.alloc (.cells #[.int .i64 (i1 : Int), .int .u64 (j2 : Int), .int .u64 (n' : Int), .slice va7 vn7 vc7] 51)) w7.heap.size 51 #[.int .i64 (i1 : Int), .int .u64 (j2 : Int), .int .u64 (n' : Int), .slice va7 vn7 vc7] := BxA.new _ _ _
            obtain ⟨w8, hw8⟩ : ∃ w8, w8 = w7.alloc (.cells #[.int .i64 (i1 : Int), .int .u64 (j2 : Int), .int .u64 (n' : Int), .slice va7 vn7 vc7] 51) := ⟨_, rfl⟩
            obtain ⟨g8, hg8⟩ : ∃ g, g = w7.heap.size := ⟨_, rfl⟩
            rw [← hw8] at HS8 hX ⊢
            rw [← hg8] at hX ⊢
            have x0 : w8.cell? ⟨g8, 0, none⟩ = some (.int .i64 (i1 : Int)) := hX.cell 0 _ rfl
            clear hw8 hg8 hbW HS7 hX d0
            have kU := (HS8.out.up ((Below.refl _ _).alloc (Nat.le_refl _) (.cells #[.int .u64 (n' : Int)] 24))).e
            rw [HEL.out] at kU
            have HKU := hide kU
            clear kU
            go_wp2_with (
              at_builtin
              refine wpList_appF rfl _ _ 71 rfl w1.heap.size 24 i0 z0 1 8 Try.underlying71 hi0 hz0 hz2 hz3 hz1 (by decide) xe i (us (Z.map Kp.up)) rfl HKU.out (.slice (some ⟨w8.heap.size, 0, none⟩) 1 1) 1 [.int .u64 (n' : Int)] rfl (litU (BxA.new _ _ _)) (fun u hu => by simp at hu; subst hu; rfl) (by unfold maxLen; omega) (by omega) (Nat.le_trans HS8.out.bl.size ((Below.refl _ _).alloc (Nat.le_refl _) _).size) ?_
              intro v9 w9 o9 g9 p9
              have HS9 : Hid (StE w1 w9 x 5 sv7 (Z ++ [o']) { num := (i1 : Int) + 1, fr := n', up := n', v := nl, ts := [] } v9 (Z.map Kp.up ++ [n'])) := hide ((HS8.out.up ((Below.refl _ _).alloc (Nat.le_refl _) _)).push (by rw [HEL.out]; exact o9) g9 p9)
              clear o9 g9 p9)
            have HC9 := hide (HCQ.out.seal hfu)
            rw [HNI.out, HUP.out] at HC9
            go_roundg (tn - i1)
            case measure => have := HI1.out; omega
            case rel =>
              refine ⟨i1, n', Z ++ [o'], _, sv7, v9, rfl, rfl, rfl, by have := HI1.out; omega, by have := HI1.out; omega, by have := HI1.out; have := HNN.out; omega, Nat.le_refl _, rfl, by rw [List.length_append, HZL.out, HI1.out]; rfl, ?_, HC9.out, ?_⟩
              · have := HS9.out
                rw [← HUP.out] at this ⊢
                rw [List.map_append]
                exact this
              · exact (HN.out.to (o' := o')).snoc HCQ.out _
    · have hq : ¬ (i : Int) < (tn : Int) ∨ (i : Int) < (tn : Int) ∧ ¬ (i : Int) < 12 := by omega
      obtain ⟨ea, ec, hxv⟩ := own_sl HS.out.e
      have hel : (Z.map Kp.up).length = i := by rw [List.length_map]; exact hZl
      rw [hel] at hxv
      subst hxv
      have HZL := hide hZl
      have HOT := hide hots
      have HEL := hide hel
      clear hots hZl hel
      rcases hq with hq1 | ⟨hq1, hq2⟩
      all_goals (
        go_upto_region 24 with fail
        as_aux_lemma =>
          have hupn : o.up = n := by rw [HC.out.up, gs_length]
          have hfrn : o.fr = n := by have := HC.out.r; rw [HOT.out] at this; simp at this; omega
          have HFN := hide hfrn
          have HUN := hide hupn
          have hon : o.num = (i : Int) + 1 := by rw [HC.out.n, HZL.out]
          have HON := hide hon
          obtain ⟨N2, hN2⟩ : ∃ m, m = i + 2 := ⟨_, rfl⟩
          have hN2z : (i : Int) + 2 = (N2 : Int) := by omega
          have hn1 : n ≤ 200 := by omega
          have HN2 := hide hN2
          clear hupn hfrn hon hN2
          go_loopg [14, 15] pn (fun kx v14 v15 wr => ∃ (g j : Nat) (sv' : Value), v14 = .int .i64 (g : Int) ∧ v15 = .int .i64 (j : Int) ∧ j ≤ pn ∧ j ≤ 60 ∧ pn - j ≤ kx ∧ g ≤ i ∧ Hid (StE w1 wr x 5 sv' (Z.drop g) o (.slice ea i ec) (Z.map Kp.up)))
          case atStart => exact ⟨0, 0, sv, rfl, rfl, Nat.zero_le _, Nat.zero_le _, Nat.le_refl _, Nat.zero_le _, HS.out⟩
          case round =>
            obtain ⟨g, j, sv', rfl, rfl, hj, hj2, hkx2, hgi, HSX⟩ := hrel
            by_cases hlt2 : j < pn ∧ j < 60
            · have hl1 : (j : Int) < (pn : Int) := by omega
              have hl2 : (j : Int) < 60 := by omega
              as_aux_lemma =>
                have hnl : j < ps.length := by have := HP.out.len; simp [i64s] at this; omega
                obtain ⟨t0, ht0⟩ : ∃ t, t = ps[j] := ⟨_, rfl⟩
                have htm : -9223372036854775808 ≤ t0 ∧ t0 ≤ 9223372036854775807 := HPR.out t0 (by rw [ht0]; exact List.getElem_mem hnl)
                obtain ⟨tb, tq, hta, htc0⟩ := HP.out.at' j (.int .i64 t0) (by unfold i64s; rw [ht0]; simp [hnl])
                subst hta
                have d0 := cell_upB (HB1.out.trans (HSX.out.bl.mono HB1.out.size)) htc0
                obtain ⟨mt, hmt⟩ : ∃ m, m = ab t0 := ⟨_, rfl⟩
                have hmt1 : mt ≤ 9223372036854775807 := by rw [hmt]; exact ab_le t0 htm
                have kT := abs_any wr t0 htm
                rw [← hmt] at kT
                obtain ⟨r0, hr0⟩ : ∃ r, r = mt % N2 := ⟨_, rfl⟩
                have hN2l : N2 = i + 2 := HN2.out
                have hr0l : r0 < N2 := by rw [hr0]; exact Nat.mod_lt _ (by omega)
                obtain ⟨k, hk⟩ : ∃ k, k = 1 + r0 := ⟨_, rfl⟩
                have hkz : 1 + (r0 : Int) = (k : Int) := by omega
                have hk1 : 1 ≤ k ∧ k ≤ i + 2 := by omega
                have hN2p : (0 : Int) < (N2 : Int) := by omega
                have hN2n : ¬ (N2 : Int) = 0 := by omega
                have hr0z : (mt : Int) % (N2 : Int) = (r0 : Int) := by rw [hr0]; exact (Int.natCast_emod mt N2).symm
                clear hmt ht0 htc0 hr0 hk hN2l
                go_upto_region 27 with (go_at_call 17; refine kT.mono ?_; rintro e w4 ⟨he4, hw4⟩; have hw4 := hw4.symm; subst he4; subst hw4)
                clear hr0z hr0l kT d0 hmt1 hN2p hN2n
                obtain ⟨g1, hg1⟩ : ∃ m, m = g + 1 := ⟨_, rfl⟩
                have hg1z : (g : Int) + 1 = (g1 : Int) := by omega
                have hgb : (g1 : Int) ≤ 100 := by omega
                have HG1 := hide hg1
                clear hg1
                by_cases hA : k ≤ g
                · have kR := HSX.out.st.rel_none (by decide) (k : Int) (by
                    by_cases hgl : g < Z.length
                    · exact .inr (.inl ⟨Z[g], Z.drop (g + 1), List.drop_eq_getElem_cons hgl, by rw [HN.out.z g hgl]; omega⟩)
                    · exact .inl (List.drop_of_length_le (by omega)))
                  have c1 : (k : Int) ≤ (g : Int) := by omega
                  have c2 : ¬ (k : Int) = (g1 : Int) := by omega
                  go_upto_region 34 with (go_at_call 22; refine kR.mono ?_; rintro e w9 ⟨he9, hw9⟩; have hw9 := hw9.symm; subst he9; subst hw9)
                  as_aux_lemma =>
                    have HSG := HSX.out
                    obtain ⟨gn, hgne⟩ : ∃ m, m = g := ⟨_, rfl⟩
                    have hgn : gn ≤ i := by omega
                    rw [← hgne] at HSG ⊢
                    clear hgne
                    have hgf := gone_facts HC.out HOT.out (g := gn) (by rw [HZL.out]; exact hgn)
                    have hrp : ∀ m, gn = m + 1 → rel Z gn = (Z.map Kp.up)[m]?.getD 0 ∧ 0 < rel Z gn := fun m e => by
                      subst e
                      have hml : m < Z.length := by rw [HZL.out]; omega
                      have hk : kch 0 Z n := by rw [← HFN.out]; exact HC.out.c
                      have := rel_pos hk hml
                      refine ⟨?_, this.2⟩
                      rw [List.getElem?_map, List.getElem?_eq_getElem hml, this.1]
                      rfl
                    have hr00 : gn = 0 → rel Z gn = 0 := fun e => by subst e; rfl
                    obtain ⟨r, hrr⟩ : ∃ r, r = rel Z gn := ⟨_, rfl⟩
                    rw [← hrr] at hgf hrp hr00
                    obtain ⟨q1, q2, q3, q4, q5, q6⟩ := hgf
                    have kB := HSG.st.behind (by decide) r (by rw [q2]; exact Nat.le_refl _) (by omega) (by omega) (by have := HZL.out; rw [List.length_drop]; omega) (fun p hp => by have := (q5 p hp).1; omega) (fun i => by have := q6 i; omega)
                    rw [q1, q4] at kB
                    obtain ⟨fl, hfl⟩ : ∃ m, m = ((gs n).drop r).length := ⟨_, rfl⟩
                    have hflz : (n : Int) - (r : Int) = (fl : Int) := by rw [List.length_drop, gs_length] at hfl; omega
                    have HFL := hide hfl
                    clear hrr q1 q4 q6 hfl
                    by_cases hg0 : gn = 0
                    · have hr0 := hr00 hg0
                      have hg0z : (gn : Int) = 0 := by omega
                      clear hrp hr00
                      clear hg0
                      subst hr0
                      obtain rfl : fl = n := by omega
                      clear hflz
                      go_upto_region 38 with (
                        go_at_call 21
                        refine kB.mono ?_
                        rintro e w7 ⟨v7, he7, -, hr7, hb7⟩
                        subst he7
                        obtain ⟨a7, c7, hx7⟩ := own_sl hr7
                        rw [← HFL.out] at hx7
                        subst hx7
                        have HS7 := hide (HSG.up hb7)
                        have HR7 := hide hr7
                        have kC := HS7.out.st.batches (by constructor <;> decide) (by have := HZL.out; rw [List.length_drop]; omega) (fun p hp => by have := (q5 p hp).2; omega)
                        clear hr7 hb7 kB)
                      obtain ⟨bl, hbl⟩ : ∃ m, m = i - gn := ⟨_, rfl⟩
                      have hblz : (i : Int) - (gn : Int) = (bl : Int) := by omega
                      have HBL : Hid (bl = (Z.drop gn).length) := by apply hide; rw [hbl, List.length_drop, HZL.out]
                      clear hbl
                      go_upto_region 41 with (
                        go_at_call 13
                        refine kC.mono ?_
                        rintro e w8 ⟨v8, he8, ho8, hb8⟩
                        obtain ⟨a8, n8, c8, hv8⟩ := ho8.sl
                        have hn8 : n8 = bl := by rw [HBL.out]; exact ho8.len hv8
                        subst hn8
                        subst hv8
                        subst he8
                        have HS8 := hide (HS7.out.up hb8)
                        have HB8 := hide hb8
                        clear ho8 hb8 kC)
                      go_loopg [23] fl (fun kx v23 wq => ∃ m : Nat, v23 = .int .i64 (m : Int) ∧ m ≤ fl ∧ fl - m ≤ kx ∧ Hid (Below w8.heap.size w8 wq))
                      case atStart => exact ⟨0, rfl, Nat.zero_le _, Nat.le_refl _, Below.refl _ _⟩
                      case round =>
                        obtain ⟨m, rfl, hm, hkx3, HBQ⟩ := hrel
                        by_cases hmf : m < fl
                        · have hmz : (m : Int) < (fl : Int) := by omega
                          obtain ⟨g7, c7', hx, y1, y2, hcell⟩ := own_at HR7.out (by rw [← HFL.out]; omega)
                          injection hx with x1 x2 x3
                          subst x1
                          subst x3
                          rw [← HFL.out] at y1
                          clear x2
                          obtain ⟨b, hb⟩ : ∃ b, b = m + 1 := ⟨_, rfl⟩
                          have hbz : (m : Int) + 1 = (b : Int) := by omega
                          have hbb : (b : Int) ≤ 300 := by omega
                          obtain ⟨q, hq⟩ : ∃ q, q = b % 23 := ⟨_, rfl⟩
                          have hqz : (b : Int) % 23 = (q : Int) := by omega
                          have hq1 : q < 23 := by omega
                          have hml : m < ((gs fl).drop 0).length := by rw [← HFL.out]; exact hmf
                          have hval : ((gs fl).drop 0)[m] = (q : Int) := by
                            have h1 := gs_get fl m (by omega)
                            rw [List.getElem_drop]
                            have h2 : (gs fl)[0 + m]? = some (((m + 1) % 23 : Nat) : Int) := by rw [Nat.zero_add]; exact h1
                            rw [List.getElem?_eq_getElem (by rw [List.length_drop] at hml; omega)] at h2
                            rw [Option.some.inj h2, hq, hb]
                          have f0 := hcell _ _ (fcs_get ((gs fl).drop 0) m hml).1
                          rw [hval] at f0
                          have e0 := cell_upB HBQ.out (cell_upB HB8.out f0)
                          clear f0 hcell hval hml hb hq
                          go_wp2_with fail
                          go_roundg (fl - b)
                          case measure => omega
                          case rel => exact ⟨b, rfl, by omega, Nat.le_refl _, HBQ.out⟩
                        · have hmz : ¬ (m : Int) < (fl : Int) := by omega
                          have HSZ := hide (HS8.out.up HBQ.out)
                          go_wp2_with fail
                          go_roundg (pn - (j + 1))
                          case measure => omega
                          case rel => exact ⟨gn, j + 1, sv', by rw [hg0z], rfl, by omega, by omega, Nat.le_refl _, hgn, HSZ.out⟩
                    · obtain ⟨gm, hgm⟩ : ∃ m, gn = m + 1 := ⟨gn - 1, by omega⟩
                      obtain ⟨hru, hrpos⟩ := hrp gm hgm
                      have hg0z : (0 : Int) < (gn : Int) := by omega
                      have hgmz : (gn : Int) - 1 = (gm : Int) := by omega
                      have hgmi : gm < i := by omega
                      have hrz : (0 : Int) < (r : Int) := by omega
                      obtain ⟨ge, ce, hev, y1, y2, hcell⟩ := own_at HSG.e (by rw [HEL.out]; omega)
                      rw [HEL.out] at hev y1
                      injection hev with x1 x2 x3
                      subst x1
                      subst x3
                      clear x2
                      have e1 := hcell gm _ (us_get _ gm (by rw [HEL.out]; exact hgmi))
                      rw [show (Z.map Kp.up)[gm]'(by rw [HEL.out]; exact hgmi) = r by rw [hru, List.getElem?_eq_getElem (by rw [HEL.out]; exact hgmi)]; rfl] at e1
                      clear hrp hr00 hru hcell hgm hg0
                      go_upto_region 38 with (
                        go_at_call 21
                        refine kB.mono ?_
                        rintro e w7 ⟨v7, he7, -, hr7, hb7⟩
                        subst he7
                        obtain ⟨a7, c7, hx7⟩ := own_sl hr7
                        rw [← HFL.out] at hx7
                        subst hx7
                        have HS7 := hide (HSG.up hb7)
                        have HR7 := hide hr7
                        have kC := HS7.out.st.batches (by constructor <;> decide) (by have := HZL.out; rw [List.length_drop]; omega) (fun p hp => by have := (q5 p hp).2; omega)
                        clear hr7 hb7 kB)
                      obtain ⟨bl, hbl⟩ : ∃ m, m = i - gn := ⟨_, rfl⟩
                      have hblz : (i : Int) - (gn : Int) = (bl : Int) := by omega
                      have HBL : Hid (bl = (Z.drop gn).length) := by apply hide; rw [hbl, List.length_drop, HZL.out]
                      clear hbl
                      go_upto_region 41 with (
                        go_at_call 13
                        refine kC.mono ?_
                        rintro e w8 ⟨v8, he8, ho8, hb8⟩
                        obtain ⟨a8, n8, c8, hv8⟩ := ho8.sl
                        have hn8 : n8 = bl := by rw [HBL.out]; exact ho8.len hv8
                        subst hn8
                        subst hv8
                        subst he8
                        have HS8 := hide (HS7.out.up hb8)
                        have HB8 := hide hb8
                        clear ho8 hb8 kC)
                      go_loopg [23] fl (fun kx v23 wq => ∃ m : Nat, v23 = .int .i64 (m : Int) ∧ m ≤ fl ∧ fl - m ≤ kx ∧ Hid (Below w8.heap.size w8 wq))
                      case atStart => exact ⟨0, rfl, Nat.zero_le _, Nat.le_refl _, Below.refl _ _⟩
                      case round =>
                        obtain ⟨m, rfl, hm, hkx3, HBQ⟩ := hrel
                        by_cases hmf : m < fl
                        · have hmz : (m : Int) < (fl : Int) := by omega
                          obtain ⟨g7, c7', hx, y1, y2, hcell⟩ := own_at HR7.out (by rw [← HFL.out]; omega)
                          injection hx with x1 x2 x3
                          subst x1
                          subst x3
                          rw [← HFL.out] at y1
                          clear x2
                          obtain ⟨a, ha⟩ : ∃ a, a = r + m := ⟨_, rfl⟩
                          have haz : (r : Int) + (m : Int) = (a : Int) := by omega
                          obtain ⟨b, hb⟩ : ∃ b, b = a + 1 := ⟨_, rfl⟩
                          have hbz : (a : Int) + 1 = (b : Int) := by omega
                          have hbb : (b : Int) ≤ 300 := by omega
                          obtain ⟨q, hq⟩ : ∃ q, q = b % 23 := ⟨_, rfl⟩
                          have hqz : (b : Int) % 23 = (q : Int) := by omega
                          have hq1 : q < 23 := by omega
                          have hml : m < ((gs n).drop r).length := by rw [← HFL.out]; exact hmf
                          have hval : ((gs n).drop r)[m] = (q : Int) := by
                            have h1 := gs_get n a (by omega)
                            rw [List.getElem_drop]
                            have h2 : (gs n)[r + m]? = some (((a + 1) % 23 : Nat) : Int) := by rw [← ha]; exact h1
                            rw [List.getElem?_eq_getElem (by rw [List.length_drop] at hml; omega)] at h2
                            rw [Option.some.inj h2, hq, hb]
                          have f0 := hcell _ _ (fcs_get ((gs n).drop r) m hml).1
                          rw [hval] at f0
                          have e0 := cell_upB HBQ.out (cell_upB HB8.out f0)
                          clear f0 hcell hval hml ha hb hq
                          go_wp2_with fail
                          go_roundg (fl - (m + 1))
                          case measure => omega
                          case rel => exact ⟨m + 1, rfl, hmf, Nat.le_refl _, HBQ.out⟩
                        · have hmz : ¬ (m : Int) < (fl : Int) := by omega
                          have HSZ := hide (HS8.out.up HBQ.out)
                          obtain ⟨r1, hr1⟩ : ∃ m, m = r - 1 := ⟨_, rfl⟩
                          have hr1z : (r : Int) - 1 = (r1 : Int) := by omega
                          have kG := HSZ.out.st.gone (by decide) r1 (by rw [q2]; omega)
                          clear hr1
                          go_wp2_with (go_at_call 21; refine kG.mono ?_; rintro e w9 ⟨he9, hw9⟩; have hw9 := hw9.symm; subst he9; subst hw9)
                          go_roundg (pn - (j + 1))
                          case measure => omega
                          case rel => exact ⟨gn, j + 1, sv', rfl, rfl, by omega, by omega, Nat.le_refl _, hgn, HSZ.out⟩
                · by_cases hB : i < k
                  · have kR := HSX.out.st.rel_none (by decide) (k : Int) (.inr (.inr (by rw [HON.out]; omega)))
                    have c1 : ¬ (k : Int) ≤ (g : Int) := by omega
                    have c3 : (i : Int) < (k : Int) := by omega
                    have c4 : ¬ (k : Int) ≤ (i : Int) := by omega
                    by_cases hB2 : k = g1
                    · obtain rfl : k = g1 := hB2
                      clear hkz
                      go_upto_region 34 with (go_at_call 22; refine kR.mono ?_; rintro e w9 ⟨he9, hw9⟩; have hw9 := hw9.symm; subst he9; subst hw9)
                      as_aux_lemma =>
                        have HSG := HSX.out
                        obtain ⟨gn, hgne⟩ : ∃ m, m = g := ⟨_, rfl⟩
                        have hgn : gn ≤ i := by omega
                        rw [← hgne] at HSG ⊢
                        clear hgne
                        have hgf := gone_facts HC.out HOT.out (g := gn) (by rw [HZL.out]; exact hgn)
                        have hrp : ∀ m, gn = m + 1 → rel Z gn = (Z.map Kp.up)[m]?.getD 0 ∧ 0 < rel Z gn := fun m e => by
                          subst e
                          have hml : m < Z.length := by rw [HZL.out]; omega
                          have hk : kch 0 Z n := by rw [← HFN.out]; exact HC.out.c
                          have := rel_pos hk hml
                          refine ⟨?_, this.2⟩
                          rw [List.getElem?_map, List.getElem?_eq_getElem hml, this.1]
                          rfl
                        have hr00 : gn = 0 → rel Z gn = 0 := fun e => by subst e; rfl
                        obtain ⟨r, hrr⟩ : ∃ r, r = rel Z gn := ⟨_, rfl⟩
                        rw [← hrr] at hgf hrp hr00
                        obtain ⟨q1, q2, q3, q4, q5, q6⟩ := hgf
                        have kB := HSG.st.behind (by decide) r (by rw [q2]; exact Nat.le_refl _) (by omega) (by omega) (by have := HZL.out; rw [List.length_drop]; omega) (fun p hp => by have := (q5 p hp).1; omega) (fun i => by have := q6 i; omega)
                        rw [q1, q4] at kB
                        obtain ⟨fl, hfl⟩ : ∃ m, m = ((gs n).drop r).length := ⟨_, rfl⟩
                        have hflz : (n : Int) - (r : Int) = (fl : Int) := by rw [List.length_drop, gs_length] at hfl; omega
                        have HFL := hide hfl
                        clear hrr q1 q4 q6 hfl
                        by_cases hg0 : gn = 0
                        · have hr0 := hr00 hg0
                          have hg0z : (gn : Int) = 0 := by omega
                          clear hrp hr00
                          clear hg0
                          subst hr0
                          obtain rfl : fl = n := by omega
                          clear hflz
                          go_upto_region 38 with (
                            go_at_call 21
                            refine kB.mono ?_
                            rintro e w7 ⟨v7, he7, -, hr7, hb7⟩
                            subst he7
                            obtain ⟨a7, c7, hx7⟩ := own_sl hr7
                            rw [← HFL.out] at hx7
                            subst hx7
                            have HS7 := hide (HSG.up hb7)
                            have HR7 := hide hr7
                            have kC := HS7.out.st.batches (by constructor <;> decide) (by have := HZL.out; rw [List.length_drop]; omega) (fun p hp => by have := (q5 p hp).2; omega)
                            clear hr7 hb7 kB)
                          obtain ⟨bl, hbl⟩ : ∃ m, m = i - gn := ⟨_, rfl⟩
                          have hblz : (i : Int) - (gn : Int) = (bl : Int) := by omega
                          have HBL : Hid (bl = (Z.drop gn).length) := by apply hide; rw [hbl, List.length_drop, HZL.out]
                          clear hbl
                          go_upto_region 41 with (
                            go_at_call 13
                            refine kC.mono ?_
                            rintro e w8 ⟨v8, he8, ho8, hb8⟩
                            obtain ⟨a8, n8, c8, hv8⟩ := ho8.sl
                            have hn8 : n8 = bl := by rw [HBL.out]; exact ho8.len hv8
                            subst hn8
                            subst hv8
                            subst he8
                            have HS8 := hide (HS7.out.up hb8)
                            have HB8 := hide hb8
                            clear ho8 hb8 kC)
                          go_loopg [23] fl (fun kx v23 wq => ∃ m : Nat, v23 = .int .i64 (m : Int) ∧ m ≤ fl ∧ fl - m ≤ kx ∧ Hid (Below w8.heap.size w8 wq))
                          case atStart => exact ⟨0, rfl, Nat.zero_le _, Nat.le_refl _, Below.refl _ _⟩
                          case round =>
                            obtain ⟨m, rfl, hm, hkx3, HBQ⟩ := hrel
                            by_cases hmf : m < fl
                            · have hmz : (m : Int) < (fl : Int) := by omega
                              obtain ⟨g7, c7', hx, y1, y2, hcell⟩ := own_at HR7.out (by rw [← HFL.out]; omega)
                              injection hx with x1 x2 x3
                              subst x1
                              subst x3
                              rw [← HFL.out] at y1
                              clear x2
                              obtain ⟨b, hb⟩ : ∃ b, b = m + 1 := ⟨_, rfl⟩
                              have hbz : (m : Int) + 1 = (b : Int) := by omega
                              have hbb : (b : Int) ≤ 300 := by omega
                              obtain ⟨q, hq⟩ : ∃ q, q = b % 23 := ⟨_, rfl⟩
                              have hqz : (b : Int) % 23 = (q : Int) := by omega
                              have hq1 : q < 23 := by omega
                              have hml : m < ((gs fl).drop 0).length := by rw [← HFL.out]; exact hmf
                              have hval : ((gs fl).drop 0)[m] = (q : Int) := by
                                have h1 := gs_get fl m (by omega)
                                rw [List.getElem_drop]
                                have h2 : (gs fl)[0 + m]? = some (((m + 1) % 23 : Nat) : Int) := by rw [Nat.zero_add]; exact h1
                                rw [List.getElem?_eq_getElem (by rw [List.length_drop] at hml; omega)] at h2
                                rw [Option.some.inj h2, hq, hb]
                              have f0 := hcell _ _ (fcs_get ((gs fl).drop 0) m hml).1
                              rw [hval] at f0
                              have e0 := cell_upB HBQ.out (cell_upB HB8.out f0)
                              clear f0 hcell hval hml hb hq
                              go_wp2_with fail
                              go_roundg (fl - b)
                              case measure => omega
                              case rel => exact ⟨b, rfl, by omega, Nat.le_refl _, HBQ.out⟩
                            · have hmz : ¬ (m : Int) < (fl : Int) := by omega
                              have HSZ := hide (HS8.out.up HBQ.out)
                              go_wp2_with fail
                              go_roundg (pn - (j + 1))
                              case measure => omega
                              case rel => exact ⟨gn, j + 1, sv', by rw [hg0z], rfl, by omega, by omega, Nat.le_refl _, hgn, HSZ.out⟩
                        · obtain ⟨gm, hgm⟩ : ∃ m, gn = m + 1 := ⟨gn - 1, by omega⟩
                          obtain ⟨hru, hrpos⟩ := hrp gm hgm
                          have hg0z : (0 : Int) < (gn : Int) := by omega
                          have hgmz : (gn : Int) - 1 = (gm : Int) := by omega
                          have hgmi : gm < i := by omega
                          have hrz : (0 : Int) < (r : Int) := by omega
                          obtain ⟨ge, ce, hev, y1, y2, hcell⟩ := own_at HSG.e (by rw [HEL.out]; omega)
                          rw [HEL.out] at hev y1
                          injection hev with x1 x2 x3
                          subst x1
                          subst x3
                          clear x2
                          have e1 := hcell gm _ (us_get _ gm (by rw [HEL.out]; exact hgmi))
                          rw [show (Z.map Kp.up)[gm]'(by rw [HEL.out]; exact hgmi) = r by rw [hru, List.getElem?_eq_getElem (by rw [HEL.out]; exact hgmi)]; rfl] at e1
                          clear hrp hr00 hru hcell hgm hg0
                          go_upto_region 38 with (
                            go_at_call 21
                            refine kB.mono ?_
                            rintro e w7 ⟨v7, he7, -, hr7, hb7⟩
                            subst he7
                            obtain ⟨a7, c7, hx7⟩ := own_sl hr7
                            rw [← HFL.out] at hx7
                            subst hx7
                            have HS7 := hide (HSG.up hb7)
                            have HR7 := hide hr7
                            have kC := HS7.out.st.batches (by constructor <;> decide) (by have := HZL.out; rw [List.length_drop]; omega) (fun p hp => by have := (q5 p hp).2; omega)
                            clear hr7 hb7 kB)
                          obtain ⟨bl, hbl⟩ : ∃ m, m = i - gn := ⟨_, rfl⟩
                          have hblz : (i : Int) - (gn : Int) = (bl : Int) := by omega
                          have HBL : Hid (bl = (Z.drop gn).length) := by apply hide; rw [hbl, List.length_drop, HZL.out]
                          clear hbl
                          go_upto_region 41 with (
                            go_at_call 13
                            refine kC.mono ?_
                            rintro e w8 ⟨v8, he8, ho8, hb8⟩
                            obtain ⟨a8, n8, c8, hv8⟩ := ho8.sl
                            have hn8 : n8 = bl := by rw [HBL.out]; exact ho8.len hv8
                            subst hn8
                            subst hv8
                            subst he8
                            have HS8 := hide (HS7.out.up hb8)
                            have HB8 := hide hb8
                            clear ho8 hb8 kC)
                          go_loopg [23] fl (fun kx v23 wq => ∃ m : Nat, v23 = .int .i64 (m : Int) ∧ m ≤ fl ∧ fl - m ≤ kx ∧ Hid (Below w8.heap.size w8 wq))
                          case atStart => exact ⟨0, rfl, Nat.zero_le _, Nat.le_refl _, Below.refl _ _⟩
                          case round =>
                            obtain ⟨m, rfl, hm, hkx3, HBQ⟩ := hrel
                            by_cases hmf : m < fl
                            · have hmz : (m : Int) < (fl : Int) := by omega
                              obtain ⟨g7, c7', hx, y1, y2, hcell⟩ := own_at HR7.out (by rw [← HFL.out]; omega)
                              injection hx with x1 x2 x3
                              subst x1
                              subst x3
                              rw [← HFL.out] at y1
                              clear x2
                              obtain ⟨a, ha⟩ : ∃ a, a = r + m := ⟨_, rfl⟩
                              have haz : (r : Int) + (m : Int) = (a : Int) := by omega
                              obtain ⟨b, hb⟩ : ∃ b, b = a + 1 := ⟨_, rfl⟩
                              have hbz : (a : Int) + 1 = (b : Int) := by omega
                              have hbb : (b : Int) ≤ 300 := by omega
                              obtain ⟨q, hq⟩ : ∃ q, q = b % 23 := ⟨_, rfl⟩
                              have hqz : (b : Int) % 23 = (q : Int) := by omega
                              have hq1 : q < 23 := by omega
                              have hml : m < ((gs n).drop r).length := by rw [← HFL.out]; exact hmf
                              have hval : ((gs n).drop r)[m] = (q : Int) := by
                                have h1 := gs_get n a (by omega)
                                rw [List.getElem_drop]
                                have h2 : (gs n)[r + m]? = some (((a + 1) % 23 : Nat) : Int) := by rw [← ha]; exact h1
                                rw [List.getElem?_eq_getElem (by rw [List.length_drop] at hml; omega)] at h2
                                rw [Option.some.inj h2, hq, hb]
                              have f0 := hcell _ _ (fcs_get ((gs n).drop r) m hml).1
                              rw [hval] at f0
                              have e0 := cell_upB HBQ.out (cell_upB HB8.out f0)
                              clear f0 hcell hval hml ha hb hq
                              go_wp2_with fail
                              go_roundg (fl - (m + 1))
                              case measure => omega
                              case rel => exact ⟨m + 1, rfl, hmf, Nat.le_refl _, HBQ.out⟩
                            · have hmz : ¬ (m : Int) < (fl : Int) := by omega
                              have HSZ := hide (HS8.out.up HBQ.out)
                              obtain ⟨r1, hr1⟩ : ∃ m, m = r - 1 := ⟨_, rfl⟩
                              have hr1z : (r : Int) - 1 = (r1 : Int) := by omega
                              have kG := HSZ.out.st.gone (by decide) r1 (by rw [q2]; omega)
                              clear hr1
                              go_wp2_with (go_at_call 21; refine kG.mono ?_; rintro e w9 ⟨he9, hw9⟩; have hw9 := hw9.symm; subst he9; subst hw9)
                              go_roundg (pn - (j + 1))
                              case measure => omega
                              case rel => exact ⟨gn, j + 1, sv', rfl, rfl, by omega, by omega, Nat.le_refl _, hgn, HSZ.out⟩
                    · have c2 : ¬ (k : Int) = (g1 : Int) := by omega
                      go_upto_region 34 with (go_at_call 22; refine kR.mono ?_; rintro e w9 ⟨he9, hw9⟩; have hw9 := hw9.symm; subst he9; subst hw9)
                      as_aux_lemma =>
                        have HSG := HSX.out
                        obtain ⟨gn, hgne⟩ : ∃ m, m = g := ⟨_, rfl⟩
                        have hgn : gn ≤ i := by omega
                        rw [← hgne] at HSG ⊢
                        clear hgne
                        have hgf := gone_facts HC.out HOT.out (g := gn) (by rw [HZL.out]; exact hgn)
                        have hrp : ∀ m, gn = m + 1 → rel Z gn = (Z.map Kp.up)[m]?.getD 0 ∧ 0 < rel Z gn := fun m e => by
                          subst e
                          have hml : m < Z.length := by rw [HZL.out]; omega
                          have hk : kch 0 Z n := by rw [← HFN.out]; exact HC.out.c
                          have := rel_pos hk hml
                          refine ⟨?_, this.2⟩
                          rw [List.getElem?_map, List.getElem?_eq_getElem hml, this.1]
                          rfl
                        have hr00 : gn = 0 → rel Z gn = 0 := fun e => by subst e; rfl
                        obtain ⟨r, hrr⟩ : ∃ r, r = rel Z gn := ⟨_, rfl⟩
                        rw [← hrr] at hgf hrp hr00
                        obtain ⟨q1, q2, q3, q4, q5, q6⟩ := hgf
                        have kB := HSG.st.behind (by decide) r (by rw [q2]; exact Nat.le_refl _) (by omega) (by omega) (by have := HZL.out; rw [List.length_drop]; omega) (fun p hp => by have := (q5 p hp).1; omega) (fun i => by have := q6 i; omega)
                        rw [q1, q4] at kB
                        obtain ⟨fl, hfl⟩ : ∃ m, m = ((gs n).drop r).length := ⟨_, rfl⟩
                        have hflz : (n : Int) - (r : Int) = (fl : Int) := by rw [List.length_drop, gs_length] at hfl; omega
                        have HFL := hide hfl
                        clear hrr q1 q4 q6 hfl
                        by_cases hg0 : gn = 0
                        · have hr0 := hr00 hg0
                          have hg0z : (gn : Int) = 0 := by omega
                          clear hrp hr00
                          clear hg0
                          subst hr0
                          obtain rfl : fl = n := by omega
                          clear hflz
                          go_upto_region 38 with (
                            go_at_call 21
                            refine kB.mono ?_
                            rintro e w7 ⟨v7, he7, -, hr7, hb7⟩
                            subst he7
                            obtain ⟨a7, c7, hx7⟩ := own_sl hr7
                            rw [← HFL.out] at hx7
                            subst hx7
                            have HS7 := hide (HSG.up hb7)
                            have HR7 := hide hr7
                            have kC := HS7.out.st.batches (by constructor <;> decide) (by have := HZL.out; rw [List.length_drop]; omega) (fun p hp => by have := (q5 p hp).2; omega)
                            clear hr7 hb7 kB)
                          obtain ⟨bl, hbl⟩ : ∃ m, m = i - gn := ⟨_, rfl⟩
                          have hblz : (i : Int) - (gn : Int) = (bl : Int) := by omega
                          have HBL : Hid (bl = (Z.drop gn).length) := by apply hide; rw [hbl, List.length_drop, HZL.out]
                          clear hbl
                          go_upto_region 41 with (
                            go_at_call 13
                            refine kC.mono ?_
                            rintro e w8 ⟨v8, he8, ho8, hb8⟩
                            obtain ⟨a8, n8, c8, hv8⟩ := ho8.sl
                            have hn8 : n8 = bl := by rw [HBL.out]; exact ho8.len hv8
                            subst hn8
                            subst hv8
                            subst he8
                            have HS8 := hide (HS7.out.up hb8)
                            have HB8 := hide hb8
                            clear ho8 hb8 kC)
                          go_loopg [23] fl (fun kx v23 wq => ∃ m : Nat, v23 = .int .i64 (m : Int) ∧ m ≤ fl ∧ fl - m ≤ kx ∧ Hid (Below w8.heap.size w8 wq))
                          case atStart => exact ⟨0, rfl, Nat.zero_le _, Nat.le_refl _, Below.refl _ _⟩
                          case round =>
                            obtain ⟨m, rfl, hm, hkx3, HBQ⟩ := hrel
                            by_cases hmf : m < fl
                            · have hmz : (m : Int) < (fl : Int) := by omega
                              obtain ⟨g7, c7', hx, y1, y2, hcell⟩ := own_at HR7.out (by rw [← HFL.out]; omega)
                              injection hx with x1 x2 x3
                              subst x1
                              subst x3
                              rw [← HFL.out] at y1
                              clear x2
                              obtain ⟨b, hb⟩ : ∃ b, b = m + 1 := ⟨_, rfl⟩
                              have hbz : (m : Int) + 1 = (b : Int) := by omega
                              have hbb : (b : Int) ≤ 300 := by omega
                              obtain ⟨q, hq⟩ : ∃ q, q = b % 23 := ⟨_, rfl⟩
                              have hqz : (b : Int) % 23 = (q : Int) := by omega
                              have hq1 : q < 23 := by omega
                              have hml : m < ((gs fl).drop 0).length := by rw [← HFL.out]; exact hmf
                              have hval : ((gs fl).drop 0)[m] = (q : Int) := by
                                have h1 := gs_get fl m (by omega)
                                rw [List.getElem_drop]
                                have h2 : (gs fl)[0 + m]? = some (((m + 1) % 23 : Nat) : Int) := by rw [Nat.zero_add]; exact h1
                                rw [List.getElem?_eq_getElem (by rw [List.length_drop] at hml; omega)] at h2
                                rw [Option.some.inj h2, hq, hb]
                              have f0 := hcell _ _ (fcs_get ((gs fl).drop 0) m hml).1
                              rw [hval] at f0
                              have e0 := cell_upB HBQ.out (cell_upB HB8.out f0)
                              clear f0 hcell hval hml hb hq
                              go_wp2_with fail
                              go_roundg (fl - b)
                              case measure => omega
                              case rel => exact ⟨b, rfl, by omega, Nat.le_refl _, HBQ.out⟩
                            · have hmz : ¬ (m : Int) < (fl : Int) := by omega
                              have HSZ := hide (HS8.out.up HBQ.out)
                              go_wp2_with fail
                              go_roundg (pn - (j + 1))
                              case measure => omega
                              case rel => exact ⟨gn, j + 1, sv', by rw [hg0z], rfl, by omega, by omega, Nat.le_refl _, hgn, HSZ.out⟩
                        · obtain ⟨gm, hgm⟩ : ∃ m, gn = m + 1 := ⟨gn - 1, by omega⟩
                          obtain ⟨hru, hrpos⟩ := hrp gm hgm
                          have hg0z : (0 : Int) < (gn : Int) := by omega
                          have hgmz : (gn : Int) - 1 = (gm : Int) := by omega
                          have hgmi : gm < i := by omega
                          have hrz : (0 : Int) < (r : Int) := by omega
                          obtain ⟨ge, ce, hev, y1, y2, hcell⟩ := own_at HSG.e (by rw [HEL.out]; omega)
                          rw [HEL.out] at hev y1
                          injection hev with x1 x2 x3
                          subst x1
                          subst x3
                          clear x2
                          have e1 := hcell gm _ (us_get _ gm (by rw [HEL.out]; exact hgmi))
                          rw [show (Z.map Kp.up)[gm]'(by rw [HEL.out]; exact hgmi) = r by rw [hru, List.getElem?_eq_getElem (by rw [HEL.out]; exact hgmi)]; rfl] at e1
                          clear hrp hr00 hru hcell hgm hg0
                          go_upto_region 38 with (
                            go_at_call 21
                            refine kB.mono ?_
                            rintro e w7 ⟨v7, he7, -, hr7, hb7⟩
                            subst he7
                            obtain ⟨a7, c7, hx7⟩ := own_sl hr7
                            rw [← HFL.out] at hx7
                            subst hx7
                            have HS7 := hide (HSG.up hb7)
                            have HR7 := hide hr7
                            have kC := HS7.out.st.batches (by constructor <;> decide) (by have := HZL.out; rw [List.length_drop]; omega) (fun p hp => by have := (q5 p hp).2; omega)
                            clear hr7 hb7 kB)
                          obtain ⟨bl, hbl⟩ : ∃ m, m = i - gn := ⟨_, rfl⟩
                          have hblz : (i : Int) - (gn : Int) = (bl : Int) := by omega
                          have HBL : Hid (bl = (Z.drop gn).length) := by apply hide; rw [hbl, List.length_drop, HZL.out]
                          clear hbl
                          go_upto_region 41 with (
                            go_at_call 13
                            refine kC.mono ?_
                            rintro e w8 ⟨v8, he8, ho8, hb8⟩
                            obtain ⟨a8, n8, c8, hv8⟩ := ho8.sl
                            have hn8 : n8 = bl := by rw [HBL.out]; exact ho8.len hv8
                            subst hn8
                            subst hv8
                            subst he8
                            have HS8 := hide (HS7.out.up hb8)
                            have HB8 := hide hb8
                            clear ho8 hb8 kC)
                          go_loopg [23] fl (fun kx v23 wq => ∃ m : Nat, v23 = .int .i64 (m : Int) ∧ m ≤ fl ∧ fl - m ≤ kx ∧ Hid (Below w8.heap.size w8 wq))
                          case atStart => exact ⟨0, rfl, Nat.zero_le _, Nat.le_refl _, Below.refl _ _⟩
                          case round =>
                            obtain ⟨m, rfl, hm, hkx3, HBQ⟩ := hrel
                            by_cases hmf : m < fl
                            · have hmz : (m : Int) < (fl : Int) := by omega
                              obtain ⟨g7, c7', hx, y1, y2, hcell⟩ := own_at HR7.out (by rw [← HFL.out]; omega)
                              injection hx with x1 x2 x3
                              subst x1
                              subst x3
                              rw [← HFL.out] at y1
                              clear x2
                              obtain ⟨a, ha⟩ : ∃ a, a = r + m := ⟨_, rfl⟩
                              have haz : (r : Int) + (m : Int) = (a : Int) := by omega
                              obtain ⟨b, hb⟩ : ∃ b, b = a + 1 := ⟨_, rfl⟩
                              have hbz : (a : Int) + 1 = (b : Int) := by omega
                              have hbb : (b : Int) ≤ 300 := by omega
                              obtain ⟨q, hq⟩ : ∃ q, q = b % 23 := ⟨_, rfl⟩
                              have hqz : (b : Int) % 23 = (q : Int) := by omega
                              have hq1 : q < 23 := by omega
                              have hml : m < ((gs n).drop r).length := by rw [← HFL.out]; exact hmf
                              have hval : ((gs n).drop r)[m] = (q : Int) := by
                                have h1 := gs_get n a (by omega)
                                rw [List.getElem_drop]
                                have h2 : (gs n)[r + m]? = some (((a + 1) % 23 : Nat) : Int) := by rw [← ha]; exact h1
                                rw [List.getElem?_eq_getElem (by rw [List.length_drop] at hml; omega)] at h2
                                rw [Option.some.inj h2, hq, hb]
                              have f0 := hcell _ _ (fcs_get ((gs n).drop r) m hml).1
                              rw [hval] at f0
                              have e0 := cell_upB HBQ.out (cell_upB HB8.out f0)
                              clear f0 hcell hval hml ha hb hq
                              go_wp2_with fail
                              go_roundg (fl - (m + 1))
                              case measure => omega
                              case rel => exact ⟨m + 1, rfl, hmf, Nat.le_refl _, HBQ.out⟩
                            · have hmz : ¬ (m : Int) < (fl : Int) := by omega
                              have HSZ := hide (HS8.out.up HBQ.out)
                              obtain ⟨r1, hr1⟩ : ∃ m, m = r - 1 := ⟨_, rfl⟩
                              have hr1z : (r : Int) - 1 = (r1 : Int) := by omega
                              have kG := HSZ.out.st.gone (by decide) r1 (by rw [q2]; omega)
                              clear hr1
                              go_wp2_with (go_at_call 21; refine kG.mono ?_; rintro e w9 ⟨he9, hw9⟩; have hw9 := hw9.symm; subst he9; subst hw9)
                              go_roundg (pn - (j + 1))
                              case measure => omega
                              case rel => exact ⟨gn, j + 1, sv', rfl, rfl, by omega, by omega, Nat.le_refl _, hgn, HSZ.out⟩
                  · have hgl : g < Z.length := by have := HZL.out; omega
                    have hd : Z.drop g = Z[g] :: Z.drop (g + 1) := List.drop_eq_getElem_cons hgl
                    have hnm := HN.out.z g hgl
                    have HSD := HSX.out
                    rw [hd] at HSD
                    have c1 : ¬ (k : Int) ≤ (g : Int) := by omega
                    have c3 : ¬ (i : Int) < (k : Int) := by omega
                    have c4 : (k : Int) ≤ (i : Int) := by omega
                    by_cases hC : k = g1
                    · have kR := HSD.rel_ok (by decide) (k : Int) (by rw [hnm]; omega) (by rw [hnm, HON.out]; omega)
                      rw [← HG1.out] at kR
                      clear HSD hd hnm
                      obtain rfl : k = g1 := hC
                      clear hkz
                      go_upto_region 34 with (go_at_call 22; refine kR.mono ?_; rintro e w9 ⟨he9, sv9, hs9⟩; subst he9; have HS9 := hide hs9; clear hs9 kR)
                      as_aux_lemma =>
                        have HSG := HS9.out
                        obtain ⟨gn, hgne⟩ : ∃ m, m = k := ⟨_, rfl⟩
                        have hgn : gn ≤ i := by omega
                        rw [← hgne] at HSG ⊢
                        clear hgne
                        have hgf := gone_facts HC.out HOT.out (g := gn) (by rw [HZL.out]; exact hgn)
                        have hrp : ∀ m, gn = m + 1 → rel Z gn = (Z.map Kp.up)[m]?.getD 0 ∧ 0 < rel Z gn := fun m e => by
                          subst e
                          have hml : m < Z.length := by rw [HZL.out]; omega
                          have hk : kch 0 Z n := by rw [← HFN.out]; exact HC.out.c
                          have := rel_pos hk hml
                          refine ⟨?_, this.2⟩
                          rw [List.getElem?_map, List.getElem?_eq_getElem hml, this.1]
                          rfl
                        have hr00 : gn = 0 → rel Z gn = 0 := fun e => by subst e; rfl
                        obtain ⟨r, hrr⟩ : ∃ r, r = rel Z gn := ⟨_, rfl⟩
                        rw [← hrr] at hgf hrp hr00
                        obtain ⟨q1, q2, q3, q4, q5, q6⟩ := hgf
                        have kB := HSG.st.behind (by decide) r (by rw [q2]; exact Nat.le_refl _) (by omega) (by omega) (by have := HZL.out; rw [List.length_drop]; omega) (fun p hp => by have := (q5 p hp).1; omega) (fun i => by have := q6 i; omega)
                        rw [q1, q4] at kB
                        obtain ⟨fl, hfl⟩ : ∃ m, m = ((gs n).drop r).length := ⟨_, rfl⟩
                        have hflz : (n : Int) - (r : Int) = (fl : Int) := by rw [List.length_drop, gs_length] at hfl; omega
                        have HFL := hide hfl
                        clear hrr q1 q4 q6 hfl
                        by_cases hg0 : gn = 0
                        · have hr0 := hr00 hg0
                          have hg0z : (gn : Int) = 0 := by omega
                          clear hrp hr00
                          clear hg0
                          subst hr0
                          obtain rfl : fl = n := by omega
                          clear hflz
                          go_upto_region 38 with (
                            go_at_call 21
                            refine kB.mono ?_
                            rintro e w7 ⟨v7, he7, -, hr7, hb7⟩
                            subst he7
                            obtain ⟨a7, c7, hx7⟩ := own_sl hr7
                            rw [← HFL.out] at hx7
                            subst hx7
                            have HS7 := hide (HSG.up hb7)
                            have HR7 := hide hr7
                            have kC := HS7.out.st.batches (by constructor <;> decide) (by have := HZL.out; rw [List.length_drop]; omega) (fun p hp => by have := (q5 p hp).2; omega)
                            clear hr7 hb7 kB)
                          obtain ⟨bl, hbl⟩ : ∃ m, m = i - gn := ⟨_, rfl⟩
                          have hblz : (i : Int) - (gn : Int) = (bl : Int) := by omega
                          have HBL : Hid (bl = (Z.drop gn).length) := by apply hide; rw [hbl, List.length_drop, HZL.out]
                          clear hbl
                          go_upto_region 41 with (
                            go_at_call 13
                            refine kC.mono ?_
                            rintro e w8 ⟨v8, he8, ho8, hb8⟩
                            obtain ⟨a8, n8, c8, hv8⟩ := ho8.sl
                            have hn8 : n8 = bl := by rw [HBL.out]; exact ho8.len hv8
                            subst hn8
                            subst hv8
                            subst he8
                            have HS8 := hide (HS7.out.up hb8)
                            have HB8 := hide hb8
                            clear ho8 hb8 kC)
                          go_loopg [23] fl (fun kx v23 wq => ∃ m : Nat, v23 = .int .i64 (m : Int) ∧ m ≤ fl ∧ fl - m ≤ kx ∧ Hid (Below w8.heap.size w8 wq))
                          case atStart => exact ⟨0, rfl, Nat.zero_le _, Nat.le_refl _, Below.refl _ _⟩
                          case round =>
                            obtain ⟨m, rfl, hm, hkx3, HBQ⟩ := hrel
                            by_cases hmf : m < fl
                            · have hmz : (m : Int) < (fl : Int) := by omega
                              obtain ⟨g7, c7', hx, y1, y2, hcell⟩ := own_at HR7.out (by rw [← HFL.out]; omega)
                              injection hx with x1 x2 x3
                              subst x1
                              subst x3
                              rw [← HFL.out] at y1
                              clear x2
                              obtain ⟨b, hb⟩ : ∃ b, b = m + 1 := ⟨_, rfl⟩
                              have hbz : (m : Int) + 1 = (b : Int) := by omega
                              have hbb : (b : Int) ≤ 300 := by omega
                              obtain ⟨q, hq⟩ : ∃ q, q = b % 23 := ⟨_, rfl⟩
                              have hqz : (b : Int) % 23 = (q : Int) := by omega
                              have hq1 : q < 23 := by omega
                              have hml : m < ((gs fl).drop 0).length := by rw [← HFL.out]; exact hmf
                              have hval : ((gs fl).drop 0)[m] = (q : Int) := by
                                have h1 := gs_get fl m (by omega)
                                rw [List.getElem_drop]
                                have h2 : (gs fl)[0 + m]? = some (((m + 1) % 23 : Nat) : Int) := by rw [Nat.zero_add]; exact h1
                                rw [List.getElem?_eq_getElem (by rw [List.length_drop] at hml; omega)] at h2
                                rw [Option.some.inj h2, hq, hb]
                              have f0 := hcell _ _ (fcs_get ((gs fl).drop 0) m hml).1
                              rw [hval] at f0
                              have e0 := cell_upB HBQ.out (cell_upB HB8.out f0)
                              clear f0 hcell hval hml hb hq
                              go_wp2_with fail
                              go_roundg (fl - b)
                              case measure => omega
                              case rel => exact ⟨b, rfl, by omega, Nat.le_refl _, HBQ.out⟩
                            · have hmz : ¬ (m : Int) < (fl : Int) := by omega
                              have HSZ := hide (HS8.out.up HBQ.out)
                              go_wp2_with fail
                              go_roundg (pn - (j + 1))
                              case measure => omega
                              case rel => exact ⟨gn, j + 1, sv9, by rw [hg0z], rfl, by omega, by omega, Nat.le_refl _, hgn, HSZ.out⟩
                        · obtain ⟨gm, hgm⟩ : ∃ m, gn = m + 1 := ⟨gn - 1, by omega⟩
                          obtain ⟨hru, hrpos⟩ := hrp gm hgm
                          have hg0z : (0 : Int) < (gn : Int) := by omega
                          have hgmz : (gn : Int) - 1 = (gm : Int) := by omega
                          have hgmi : gm < i := by omega
                          have hrz : (0 : Int) < (r : Int) := by omega
                          obtain ⟨ge, ce, hev, y1, y2, hcell⟩ := own_at HSG.e (by rw [HEL.out]; omega)
                          rw [HEL.out] at hev y1
                          injection hev with x1 x2 x3
                          subst x1
                          subst x3
                          clear x2
                          have e1 := hcell gm _ (us_get _ gm (by rw [HEL.out]; exact hgmi))
                          rw [show (Z.map Kp.up)[gm]'(by rw [HEL.out]; exact hgmi) = r by rw [hru, List.getElem?_eq_getElem (by rw [HEL.out]; exact hgmi)]; rfl] at e1
                          clear hrp hr00 hru hcell hgm hg0
                          go_upto_region 38 with (
                            go_at_call 21
                            refine kB.mono ?_
                            rintro e w7 ⟨v7, he7, -, hr7, hb7⟩
                            subst he7
                            obtain ⟨a7, c7, hx7⟩ := own_sl hr7
                            rw [← HFL.out] at hx7
                            subst hx7
                            have HS7 := hide (HSG.up hb7)
                            have HR7 := hide hr7
                            have kC := HS7.out.st.batches (by constructor <;> decide) (by have := HZL.out; rw [List.length_drop]; omega) (fun p hp => by have := (q5 p hp).2; omega)
                            clear hr7 hb7 kB)
                          obtain ⟨bl, hbl⟩ : ∃ m, m = i - gn := ⟨_, rfl⟩
                          have hblz : (i : Int) - (gn : Int) = (bl : Int) := by omega
                          have HBL : Hid (bl = (Z.drop gn).length) := by apply hide; rw [hbl, List.length_drop, HZL.out]
                          clear hbl
                          go_upto_region 41 with (
                            go_at_call 13
                            refine kC.mono ?_
                            rintro e w8 ⟨v8, he8, ho8, hb8⟩
                            obtain ⟨a8, n8, c8, hv8⟩ := ho8.sl
                            have hn8 : n8 = bl := by rw [HBL.out]; exact ho8.len hv8
                            subst hn8
                            subst hv8
                            subst he8
                            have HS8 := hide (HS7.out.up hb8)
                            have HB8 := hide hb8
                            clear ho8 hb8 kC)
                          go_loopg [23] fl (fun kx v23 wq => ∃ m : Nat, v23 = .int .i64 (m : Int) ∧ m ≤ fl ∧ fl - m ≤ kx ∧ Hid (Below w8.heap.size w8 wq))
                          case atStart => exact ⟨0, rfl, Nat.zero_le _, Nat.le_refl _, Below.refl _ _⟩
                          case round =>
                            obtain ⟨m, rfl, hm, hkx3, HBQ⟩ := hrel
                            by_cases hmf : m < fl
                            · have hmz : (m : Int) < (fl : Int) := by omega
                              obtain ⟨g7, c7', hx, y1, y2, hcell⟩ := own_at HR7.out (by rw [← HFL.out]; omega)
                              injection hx with x1 x2 x3
                              subst x1
                              subst x3
                              rw [← HFL.out] at y1
                              clear x2
                              obtain ⟨a, ha⟩ : ∃ a, a = r + m := ⟨_, rfl⟩
                              have haz : (r : Int) + (m : Int) = (a : Int) := by omega
                              obtain ⟨b, hb⟩ : ∃ b, b = a + 1 := ⟨_, rfl⟩
                              have hbz : (a : Int) + 1 = (b : Int) := by omega
                              have hbb : (b : Int) ≤ 300 := by omega
                              obtain ⟨q, hq⟩ : ∃ q, q = b % 23 := ⟨_, rfl⟩
                              have hqz : (b : Int) % 23 = (q : Int) := by omega
                              have hq1 : q < 23 := by omega
                              have hml : m < ((gs n).drop r).length := by rw [← HFL.out]; exact hmf
                              have hval : ((gs n).drop r)[m] = (q : Int) := by
                                have h1 := gs_get n a (by omega)
                                rw [List.getElem_drop]
                                have h2 : (gs n)[r + m]? = some (((a + 1) % 23 : Nat) : Int) := by rw [← ha]; exact h1
                                rw [List.getElem?_eq_getElem (by rw [List.length_drop] at hml; omega)] at h2
                                rw [Option.some.inj h2, hq, hb]
                              have f0 := hcell _ _ (fcs_get ((gs n).drop r) m hml).1
                              rw [hval] at f0
                              have e0 := cell_upB HBQ.out (cell_upB HB8.out f0)
                              clear f0 hcell hval hml ha hb hq
                              go_wp2_with fail
                              go_roundg (fl - (m + 1))
                              case measure => omega
                              case rel => exact ⟨m + 1, rfl, hmf, Nat.le_refl _, HBQ.out⟩
                            · have hmz : ¬ (m : Int) < (fl : Int) := by omega
                              have HSZ := hide (HS8.out.up HBQ.out)
                              obtain ⟨r1, hr1⟩ : ∃ m, m = r - 1 := ⟨_, rfl⟩
                              have hr1z : (r : Int) - 1 = (r1 : Int) := by omega
                              have kG := HSZ.out.st.gone (by decide) r1 (by rw [q2]; omega)
                              clear hr1
                              go_wp2_with (go_at_call 21; refine kG.mono ?_; rintro e w9 ⟨he9, hw9⟩; have hw9 := hw9.symm; subst he9; subst hw9)
                              go_roundg (pn - (j + 1))
                              case measure => omega
                              case rel => exact ⟨gn, j + 1, sv9, rfl, rfl, by omega, by omega, Nat.le_refl _, hgn, HSZ.out⟩
                    · have kR := HSD.st.rel_busy (by decide) (k : Int) (by rw [hnm]; omega) (by rw [HON.out]; omega)
                      have c2 : ¬ (k : Int) = (g1 : Int) := by omega
                      clear HSD hd hnm
                      go_upto_region 34 with (go_at_call 22; refine kR.mono ?_; rintro e w9 ⟨he9, hw9⟩; have hw9 := hw9.symm; subst he9; subst hw9)
                      as_aux_lemma =>
                        have HSG := HSX.out
                        obtain ⟨gn, hgne⟩ : ∃ m, m = g := ⟨_, rfl⟩
                        have hgn : gn ≤ i := by omega
                        rw [← hgne] at HSG ⊢
                        clear hgne
                        have hgf := gone_facts HC.out HOT.out (g := gn) (by rw [HZL.out]; exact hgn)
                        have hrp : ∀ m, gn = m + 1 → rel Z gn = (Z.map Kp.up)[m]?.getD 0 ∧ 0 < rel Z gn := fun m e => by
                          subst e
                          have hml : m < Z.length := by rw [HZL.out]; omega
                          have hk : kch 0 Z n := by rw [← HFN.out]; exact HC.out.c
                          have := rel_pos hk hml
                          refine ⟨?_, this.2⟩
                          rw [List.getElem?_map, List.getElem?_eq_getElem hml, this.1]
                          rfl
                        have hr00 : gn = 0 → rel Z gn = 0 := fun e => by subst e; rfl
                        obtain ⟨r, hrr⟩ : ∃ r, r = rel Z gn := ⟨_, rfl⟩
                        rw [← hrr] at hgf hrp hr00
                        obtain ⟨q1, q2, q3, q4, q5, q6⟩ := hgf
                        have kB := HSG.st.behind (by decide) r (by rw [q2]; exact Nat.le_refl _) (by omega) (by omega) (by have := HZL.out; rw [List.length_drop]; omega) (fun p hp => by have := (q5 p hp).1; omega) (fun i => by have := q6 i; omega)
                        rw [q1, q4] at kB
                        obtain ⟨fl, hfl⟩ : ∃ m, m = ((gs n).drop r).length := ⟨_, rfl⟩
                        have hflz : (n : Int) - (r : Int) = (fl : Int) := by rw [List.length_drop, gs_length] at hfl; omega
                        have HFL := hide hfl
                        clear hrr q1 q4 q6 hfl
                        by_cases hg0 : gn = 0
                        · have hr0 := hr00 hg0
                          have hg0z : (gn : Int) = 0 := by omega
                          clear hrp hr00
                          clear hg0
                          subst hr0
                          obtain rfl : fl = n := by omega
                          clear hflz
                          go_upto_region 38 with (
                            go_at_call 21
                            refine kB.mono ?_
                            rintro e w7 ⟨v7, he7, -, hr7, hb7⟩
                            subst he7
                            obtain ⟨a7, c7, hx7⟩ := own_sl hr7
                            rw [← HFL.out] at hx7
                            subst hx7
                            have HS7 := hide (HSG.up hb7)
                            have HR7 := hide hr7
                            have kC := HS7.out.st.batches (by constructor <;> decide) (by have := HZL.out; rw [List.length_drop]; omega) (fun p hp => by have := (q5 p hp).2; omega)
                            clear hr7 hb7 kB)
                          obtain ⟨bl, hbl⟩ : ∃ m, m = i - gn := ⟨_, rfl⟩
                          have hblz : (i : Int) - (gn : Int) = (bl : Int) := by omega
                          have HBL : Hid (bl = (Z.drop gn).length) := by apply hide; rw [hbl, List.length_drop, HZL.out]
                          clear hbl
                          go_upto_region 41 with (
                            go_at_call 13
                            refine kC.mono ?_
                            rintro e w8 ⟨v8, he8, ho8, hb8⟩
                            obtain ⟨a8, n8, c8, hv8⟩ := ho8.sl
                            have hn8 : n8 = bl := by rw [HBL.out]; exact ho8.len hv8
                            subst hn8
                            subst hv8
                            subst he8
                            have HS8 := hide (HS7.out.up hb8)
                            have HB8 := hide hb8
                            clear ho8 hb8 kC)
                          go_loopg [23] fl (fun kx v23 wq => ∃ m : Nat, v23 = .int .i64 (m : Int) ∧ m ≤ fl ∧ fl - m ≤ kx ∧ Hid (Below w8.heap.size w8 wq))
                          case atStart => exact ⟨0, rfl, Nat.zero_le _, Nat.le_refl _, Below.refl _ _⟩
                          case round =>
                            obtain ⟨m, rfl, hm, hkx3, HBQ⟩ := hrel
                            by_cases hmf : m < fl
                            · have hmz : (m : Int) < (fl : Int) := by omega
                              obtain ⟨g7, c7', hx, y1, y2, hcell⟩ := own_at HR7.out (by rw [← HFL.out]; omega)
                              injection hx with x1 x2 x3
                              subst x1
                              subst x3
                              rw [← HFL.out] at y1
                              clear x2
                              obtain ⟨b, hb⟩ : ∃ b, b = m + 1 := ⟨_, rfl⟩
                              have hbz : (m : Int) + 1 = (b : Int) := by omega
                              have hbb : (b : Int) ≤ 300 := by omega
                              obtain ⟨q, hq⟩ : ∃ q, q = b % 23 := ⟨_, rfl⟩
                              have hqz : (b : Int) % 23 = (q : Int) := by omega
                              have hq1 : q < 23 := by omega
                              have hml : m < ((gs fl).drop 0).length := by rw [← HFL.out]; exact hmf
                              have hval : ((gs fl).drop 0)[m] = (q : Int) := by
                                have h1 := gs_get fl m (by omega)
                                rw [List.getElem_drop]
                                have h2 : (gs fl)[0 + m]? = some (((m + 1) % 23 : Nat) : Int) := by rw [Nat.zero_add]; exact h1
                                rw [List.getElem?_eq_getElem (by rw [List.length_drop] at hml; omega)] at h2
                                rw [Option.some.inj h2, hq, hb]
                              have f0 := hcell _ _ (fcs_get ((gs fl).drop 0) m hml).1
                              rw [hval] at f0
                              have e0 := cell_upB HBQ.out (cell_upB HB8.out f0)
                              clear f0 hcell hval hml hb hq
                              go_wp2_with fail
                              go_roundg (fl - b)
                              case measure => omega
                              case rel => exact ⟨b, rfl, by omega, Nat.le_refl _, HBQ.out⟩
                            · have hmz : ¬ (m : Int) < (fl : Int) := by omega
                              have HSZ := hide (HS8.out.up HBQ.out)
                              go_wp2_with fail
                              go_roundg (pn - (j + 1))
                              case measure => omega
                              case rel => exact ⟨gn, j + 1, sv', by rw [hg0z], rfl, by omega, by omega, Nat.le_refl _, hgn, HSZ.out⟩
                        · obtain ⟨gm, hgm⟩ : ∃ m, gn = m + 1 := ⟨gn - 1, by omega⟩
                          obtain ⟨hru, hrpos⟩ := hrp gm hgm
                          have hg0z : (0 : Int) < (gn : Int) := by omega
                          have hgmz : (gn : Int) - 1 = (gm : Int) := by omega
                          have hgmi : gm < i := by omega
                          have hrz : (0 : Int) < (r : Int) := by omega
                          obtain ⟨ge, ce, hev, y1, y2, hcell⟩ := own_at HSG.e (by rw [HEL.out]; omega)
                          rw [HEL.out] at hev y1
                          injection hev with x1 x2 x3
                          subst x1
                          subst x3
                          clear x2
                          have e1 := hcell gm _ (us_get _ gm (by rw [HEL.out]; exact hgmi))
                          rw [show (Z.map Kp.up)[gm]'(by rw [HEL.out]; exact hgmi) = r by rw [hru, List.getElem?_eq_getElem (by rw [HEL.out]; exact hgmi)]; rfl] at e1
                          clear hrp hr00 hru hcell hgm hg0
                          go_upto_region 38 with (
                            go_at_call 21
                            refine kB.mono ?_
                            rintro e w7 ⟨v7, he7, -, hr7, hb7⟩
                            subst he7
                            obtain ⟨a7, c7, hx7⟩ := own_sl hr7
                            rw [← HFL.out] at hx7
                            subst hx7
                            have HS7 := hide (HSG.up hb7)
                            have HR7 := hide hr7
                            have kC := HS7.out.st.batches (by constructor <;> decide) (by have := HZL.out; rw [List.length_drop]; omega) (fun p hp => by have := (q5 p hp).2; omega)
                            clear hr7 hb7 kB)
                          obtain ⟨bl, hbl⟩ : ∃ m, m = i - gn := ⟨_, rfl⟩
                          have hblz : (i : Int) - (gn : Int) = (bl : Int) := by omega
                          have HBL : Hid (bl = (Z.drop gn).length) := by apply hide; rw [hbl, List.length_drop, HZL.out]
                          clear hbl
                          go_upto_region 41 with (
                            go_at_call 13
                            refine kC.mono ?_
                            rintro e w8 ⟨v8, he8, ho8, hb8⟩
                            obtain ⟨a8, n8, c8, hv8⟩ := ho8.sl
                            have hn8 : n8 = bl := by rw [HBL.out]; exact ho8.len hv8
                            subst hn8
                            subst hv8
                            subst he8
                            have HS8 := hide (HS7.out.up hb8)
                            have HB8 := hide hb8
                            clear ho8 hb8 kC)
                          go_loopg [23] fl (fun kx v23 wq => ∃ m : Nat, v23 = .int .i64 (m : Int) ∧ m ≤ fl ∧ fl - m ≤ kx ∧ Hid (Below w8.heap.size w8 wq))
                          case atStart => exact ⟨0, rfl, Nat.zero_le _, Nat.le_refl _, Below.refl _ _⟩
                          case round =>
                            obtain ⟨m, rfl, hm, hkx3, HBQ⟩ := hrel
                            by_cases hmf : m < fl
                            · have hmz : (m : Int) < (fl : Int) := by omega
                              obtain ⟨g7, c7', hx, y1, y2, hcell⟩ := own_at HR7.out (by rw [← HFL.out]; omega)
                              injection hx with x1 x2 x3
                              subst x1
                              subst x3
                              rw [← HFL.out] at y1
                              clear x2
                              obtain ⟨a, ha⟩ : ∃ a, a = r + m := ⟨_, rfl⟩
                              have haz : (r : Int) + (m : Int) = (a : Int) := by omega
                              obtain ⟨b, hb⟩ : ∃ b, b = a + 1 := ⟨_, rfl⟩
                              have hbz : (a : Int) + 1 = (b : Int) := by omega
                              have hbb : (b : Int) ≤ 300 := by omega
                              obtain ⟨q, hq⟩ : ∃ q, q = b % 23 := ⟨_, rfl⟩
                              have hqz : (b : Int) % 23 = (q : Int) := by omega
                              have hq1 : q < 23 := by omega
                              have hml : m < ((gs n).drop r).length := by rw [← HFL.out]; exact hmf
                              have hval : ((gs n).drop r)[m] = (q : Int) := by
                                have h1 := gs_get n a (by omega)
                                rw [List.getElem_drop]
                                have h2 : (gs n)[r + m]? = some (((a + 1) % 23 : Nat) : Int) := by rw [← ha]; exact h1
                                rw [List.getElem?_eq_getElem (by rw [List.length_drop] at hml; omega)] at h2
                                rw [Option.some.inj h2, hq, hb]
                              have f0 := hcell _ _ (fcs_get ((gs n).drop r) m hml).1
                              rw [hval] at f0
                              have e0 := cell_upB HBQ.out (cell_upB HB8.out f0)
                              clear f0 hcell hval hml ha hb hq
                              go_wp2_with fail
                              go_roundg (fl - (m + 1))
                              case measure => omega
                              case rel => exact ⟨m + 1, rfl, hmf, Nat.le_refl _, HBQ.out⟩
                            · have hmz : ¬ (m : Int) < (fl : Int) := by omega
                              have HSZ := hide (HS8.out.up HBQ.out)
                              obtain ⟨r1, hr1⟩ : ∃ m, m = r - 1 := ⟨_, rfl⟩
                              have hr1z : (r : Int) - 1 = (r1 : Int) := by omega
                              have kG := HSZ.out.st.gone (by decide) r1 (by rw [q2]; omega)
                              clear hr1
                              go_wp2_with (go_at_call 21; refine kG.mono ?_; rintro e w9 ⟨he9, hw9⟩; have hw9 := hw9.symm; subst he9; subst hw9)
                              go_roundg (pn - (j + 1))
                              case measure => omega
                              case rel => exact ⟨gn, j + 1, sv', rfl, rfl, by omega, by omega, Nat.le_refl _, hgn, HSZ.out⟩
            · have hq2 : ¬ (j : Int) < (pn : Int) ∨ (j : Int) < (pn : Int) ∧ ¬ (j : Int) < 60 := by omega
              rcases hq2 with hq3 | ⟨hq3, hq4⟩
              all_goals (
                go_wp2_with fail
                go_ret
                exact ⟨rfl, HB1.out.trans (HSX.out.bl.mono HB1.out.size)⟩))
end Go.Proofs.Ytmnlkmgpikilbaa
