/- Blobs of unlike names know nothing of one another. -/
import Derived.Test.YthegdhbmfojdaaaApM
import Derived.Test.YthegdhbmfojdaaaNum
import Derived.Test.YthegdhbmfojdaaaOnc
namespace Go.Proofs.Ythegdhbmfojdaaa
open Go.RowKit Go.Maps Go.Sort
set_option linter.unusedVariables false

theorem st0_b : st0 = bS [] 0 false false 0 0 := rfl
set_option maxRecDepth 100000 in
set_option maxHeartbeats 6400000 in
theorem blobApart_walk (w : World) (v : Value) (ts : List Str) (hr : Rds w v (sv ts)) (hbig : ts.length * 16 ≤ 140737488351232) (hmx : ∀ t ∈ ts, t.length ≤ maxLen) (v2 : Value) (ls : List (Value × Str)) (h2r : BsR w v2 ls) (gn : Int) (hg1 : -9223372036854775808 ≤ gn) (hg2 : gn ≤ 9223372036854775807) :
    Calls Try.prog 8 #[v, v2, .int .i64 gn] w fun e w' => e = .returned (.bool true) ∧ Below w.heap.size w w' := by
  have mixed : Try.prog.follows .mixedOrders = true := by kernel_rfl
  obtain ⟨i0, hi0, hi1, hi2, hi3⟩ := info_parts Try.info_str
  obtain ⟨va, vc, rfl, hva1, hva2, hvcs⟩ := hr.len
  have HVC : Aside (0 < ts.length → ∃ b o, va = some ⟨b, o, none⟩ ∧ ∀ i (hi : i < ts.length), w.cell? ⟨b, o + i, none⟩ = some (.string ⟨ts[i].toArray⟩)) := hvcs
  have HMX : Hid (∀ t ∈ ts, t.length ≤ maxLen) := hmx
  have HOK : Hid (∀ x ∈ ls, Reads w x.1 x.2) := h2r.ok
  obtain ⟨va2, vc2, rfl, hvd1, hvd2, hcs2⟩ := h2r.ex
  have HCS : Hid (0 < ls.length → ∃ b off, va2 = some ⟨b, off, none⟩ ∧ ∀ i (hi : i < ls.length), w.cell? ⟨b, off + i, none⟩ = some (ls[i]).1) := hcs2
  obtain ⟨n1, hn1⟩ : ∃ n, n = ts.length := ⟨_, rfl⟩
  obtain ⟨n2, hn2⟩ : ∃ n, n = ls.length := ⟨_, rfl⟩
  have HN1 : Hid (n1 = ts.length) := hn1
  have HN2 : Hid (n2 = ls.length) := hn2
  rw [← hn1] at hva1 hbig
  rw [← hn2] at hvd1
  rw [← hn1, ← hn2]
  have HG : Hid (-9223372036854775808 ≤ gn ∧ gn ≤ 9223372036854775807) := ⟨hg1, hg2⟩
  unfold maxLen at hvd2 hva2
  clear h2r hn1 hn2 hcs2 hr hvcs hmx hg1 hg2
  go_enter Try.func8, Try.ntmps8
  go_wp2_with fail
  refine (awake_any w).mono ?_
  rintro e w1 ⟨rfl, b1⟩
  have HB1 : Hid (Below w.heap.size w w1) := b1
  clear b1
  go_wp2_with fail
  refine (new_fr w1).mono ?_
  rintro e w2 ⟨rfl, d2, b2⟩
  have kO := open_ls w w2 w1.heap.size (HB1.out.trans (b2.mono HB1.out.size)) d2 HB1.out.size
  obtain ⟨d, hd⟩ : ∃ d, d = w1.heap.size := ⟨_, rfl⟩
  rw [← hd] at kO
  rw [← hd]
  clear d2 b2 hd HB1
  go_wp2_with fail
  refine kO.mono ?_
  rintro e w3 ⟨p, rfl, h3⟩
  have H3 : Hid (Ap w w3 p d (fun i => i = d) 0 (bS [] 0 false false 0 0) [] [] (.slice none 0 0) (.slice none 0 0)) := ⟨h3, ⟨rfl, .inl ⟨rfl, rfl⟩⟩, ⟨rfl, .inl ⟨rfl, rfl⟩⟩, (fun r hr => by cases hr), (fun r hr => by cases hr), (fun r hr => by cases hr)⟩
  clear kO h3
  go_wp2_with fail
  go_loopg [11, 12, 13, 14] 30 (fun kx v11 v12 v13 _ wr => ∃ (i N n : Nat) (F : Nat → Prop) (M : List (Str × Str)) (x y : Value), x = v11 ∧ y = v12 ∧ v13 = .int .i64 (i : Int) ∧ i ≤ 30 ∧ 30 - i ≤ kx ∧ N ≤ 1048584 * i ∧ M.length ≤ i ∧ n ≤ 3 * i ∧ Hid (Bls M) ∧ Hid (Ap w wr p d F N (bS M n false false 0 0) (M.map Prod.fst) (M.map Prod.snd) x y))
  case atStart => exact ⟨0, 0, 0, _, [], _, _, rfl, rfl, rfl, by omega, Nat.le_refl _, by omega, Nat.le_refl _, by omega, ⟨List.Pairwise.nil, (fun _ h => by cases h), (fun _ h => by cases h)⟩, H3⟩
  case round =>
    obtain ⟨i, N, n, F, M, x, y, rfl, rfl, rfl, hi, hkx, hN, hMl, hnn, HM, HA⟩ := hrel
    clear H3
    by_cases hgo : i < n1 ∧ i < n2 ∧ i < 30
    · obtain ⟨hin1, hin2, hi30⟩ := hgo
      have hz1 : (i : Int) < (n1 : Int) := by omega
      have hz2 : (i : Int) < (n2 : Int) := by omega
      have hz3 : (i : Int) < 30 := by omega
      have hil : i < ls.length := by have := HN2.out; omega
      have hit : i < ts.length := by have := HN1.out; omega
      obtain ⟨b, off, rfl, hcs⟩ := HCS.out (by omega)
      obtain ⟨bt, ot, rfl, hct⟩ := HVC.out (by omega)
      have hrx := HOK.out _ (List.getElem_mem hil)
      have htx := HMX.out _ (List.getElem_mem hit)
      obtain ⟨q, hq⟩ : ∃ q, q = (ls[i]).1 := ⟨_, rfl⟩
      obtain ⟨m, hm⟩ : ∃ m, m = (ls[i]).2 := ⟨_, rfl⟩
      obtain ⟨t, ht⟩ : ∃ t, t = ts[i] := ⟨_, rfl⟩
      rw [← hq, ← hm] at hrx
      rw [← ht] at htx
      have HC0 : Hid (w.cell? ⟨b, off + i, none⟩ = some q) := by rw [hq]; exact hcs i hil
      have HC1 : Hid (w.cell? ⟨bt, ot + i, none⟩ = some (.string ⟨t.toArray⟩)) := by rw [ht]; exact hct i hit
      clear hq hm ht hcs hct hil hit
      obtain ⟨xa2, xc2, rfl⟩ : ∃ a c, q = .slice a m.length c := by obtain ⟨a, c, e, _⟩ := hrx; exact ⟨_, _, e⟩
      have HRX : Hid (Reads w (.slice xa2 m.length xc2) m) := hrx
      have c0 : wr.cell? ⟨b, off + i, none⟩ = some (.slice xa2 m.length xc2) := by rw [HA.out.ls.bel.cell (World.block_lt_of_cell? _ _ HC0.out), HC0.out]
      have c1 : wr.cell? ⟨bt, ot + i, none⟩ = some (.string ⟨t.toArray⟩) := by rw [HA.out.ls.bel.cell (World.block_lt_of_cell? _ _ HC1.out), HC1.out]
      have kP := fun (W' : World) (hb : Below wr.heap.size wr W') => put_ls w W' p d N F (bS M n false false 0 0) t m (.slice xa2 m.length xc2) (HA.out.ls.below hb) htx (fun w' hf => ((hrx.below HA.out.ls.bel).below hb).fra hrx.blk HA.out.ls.F0 hf) (by omega) (by show n < 999990; omega)
      have HAS : Hid (ApS M n t m (bput (bS M n false false 0 0) t m)) := ap_put HM.out (by omega) n t m
      obtain ⟨R, hR⟩ : ∃ R, R = bput (bS M n false false 0 0) t m := ⟨_, rfl⟩
      rw [← hR] at kP HAS
      have HW1 : Hid (wrap64 ((i : Int) + 1) = (i : Int) + 1) := by apply hide; rw [← IntWalk.i64_left, IntKind.wrap_i64]; omega
      clear hrx hR
      go_wp2_with fail
      go_cut [14] (fun v14 wA => ∃ F4 : Nat → Prop, v14 = .int .i64 (R.1 : Int) ∧ Hid (Ap w wA p d F4 (N + 1048584) R.2 (M.map Prod.fst) (M.map Prod.snd) x y))
      case first =>
        go_region_with (first | (go_at_call 19; refine (kP _ ?_).mono ?_; exact (Below.refl _ _).drew; rintro e w4 ⟨rfl, k4⟩))
        all_goals
          obtain ⟨F4, h4⟩ := (HA.out.below ((Below.refl _ _).drew)).mv k4
          have H4 : Hid _ := h4
          clear h4 k4
          go_wp2_with fail
          go_meet
          case rel => exact ⟨F4, rfl, H4⟩
      case rest =>
        rename World => w5
        obtain ⟨F4, rfl, HA4⟩ := hcut
        have kI := is_any w5 x (M.map Prod.fst) t HA4.out.rows.1 (by rw [List.length_map]; omega)
        rw [← mHas_mem] at kI
        have c50 : w5.cell? ⟨b, off + i, none⟩ = some (.slice xa2 m.length xc2) := by rw [HA4.out.ls.bel.cell (World.block_lt_of_cell? _ _ HC0.out), HC0.out]
        have c51 : w5.cell? ⟨bt, ot + i, none⟩ = some (.string ⟨t.toArray⟩) := by rw [HA4.out.ls.bel.cell (World.block_lt_of_cell? _ _ HC1.out), HC1.out]
        clear c0 c1 kP
        cases HAS.out with
        | same c h0 h1 =>
          by_cases hc : c = 0
          · subst hc
            rw [h0 rfl] at kI
            clear h0 h1
            go_wp2_with fail
            refine kI.mono ?_
            rintro e wq ⟨rfl, rfl⟩
            clear kI
            go_wp2_with fail
            go_roundg (30 - (i + 1))
            case measure => exact Nat.lt_of_lt_of_le (Nat.sub_lt_sub_left hi30 (Nat.lt_succ_self i)) hkx
            case rel => exact ⟨i + 1, N + 1048584, n, F4, M, x, y, rfl, rfl, by first | (rw [HW1.out]; rfl) | rfl, hi30, Nat.le_refl _, by omega, by omega, by omega, HM, HA4⟩
          · have h2 : c = 1 ∨ c = 121 := h1.resolve_left hc
            clear h1 hc
            rcases h2 with rfl | rfl
            · clear kI h0
              go_wp2_with fail
              go_roundg (30 - (i + 1))
              case measure => exact Nat.lt_of_lt_of_le (Nat.sub_lt_sub_left hi30 (Nat.lt_succ_self i)) hkx
              case rel => exact ⟨i + 1, N + 1048584, n, F4, M, x, y, rfl, rfl, by first | (rw [HW1.out]; rfl) | rfl, hi30, Nat.le_refl _, by omega, by omega, by omega, HM, HA4⟩
            · clear kI h0
              go_wp2_with fail
              go_roundg (30 - (i + 1))
              case measure => exact Nat.lt_of_lt_of_le (Nat.sub_lt_sub_left hi30 (Nat.lt_succ_self i)) hkx
              case rel => exact ⟨i + 1, N + 1048584, n, F4, M, x, y, rfl, rfl, by first | (rw [HW1.out]; rfl) | rfl, hi30, Nat.le_refl _, by omega, by omega, by omega, HM, HA4⟩
        | new h0 hx hm =>
          rw [h0] at kI
          have HM2 : Hid (Bls (M ++ [(t, m)])) := HM.out.add hx hm h0
          have HL1 : Hid (RdsK 1 (w5.alloc (.cells #[Value.string ⟨t.toArray⟩] 9)) (.slice (some ⟨w5.heap.size, 0, none⟩) 1 1) 1 [Value.string ⟨t.toArray⟩]) := RdsK.of_own (lit_own w5 [Value.string ⟨t.toArray⟩] 9 (by simp [maxLen]))
          have HA5 : Hid (Ap w (w5.alloc (.cells #[Value.string ⟨t.toArray⟩] 9)) p d F4 (N + 1048584) (bS (M ++ [(t, m)]) (n + 3) false false 0 0) (M.map Prod.fst) (M.map Prod.snd) x y) := HA4.out.below ((Below.refl _ _).alloc (Nat.le_refl _) _)
          have hsz5 : w.heap.size ≤ (w5.alloc (.cells #[Value.string ⟨t.toArray⟩] 9)).heap.size := HA5.out.ls.bel.size
          have hml1 : (M.map Prod.fst).length ≤ 30 := by rw [List.length_map]; omega
          have hml2 : (M.map Prod.snd).length ≤ 30 := by rw [List.length_map]; omega
          have HQ1 : Hid (((M.map Prod.fst).length + 1 + ((M.map Prod.fst).length + 1) / 4 + 192) * 16 ≤ 281474976710656 ∧ ((M.map Prod.snd).length + 1 + ((M.map Prod.snd).length + 1) / 4 + 192) * 16 ≤ 281474976710656 ∧ (M.map Prod.fst).length + 1 ≤ maxLen ∧ (M.map Prod.snd).length + 1 ≤ maxLen) := by apply hide; unfold maxLen; omega
          clear h0 hx hm HA4 hml1 hml2
          go_wp2_with fail
          refine kI.mono ?_
          rintro e wq ⟨rfl, rfl⟩
          clear kI
          go_wp2_with (first | (at_builtin; refine wpList_appF rfl _ _ 42 rfl w.heap.size 9 i0 (.string ⟨#[]⟩) 1 16 Try.underlying42 hi0 hi1 hi2 hi3 rfl (by decide) x (M.map Prod.fst).length (sv (M.map Prod.fst)) rfl HA5.out.a (.slice (some ⟨wq.heap.size, 0, none⟩) 1 1) 1 [Value.string ⟨t.toArray⟩] rfl HL1.out (fun u hu => by simp at hu; subst hu; rfl) HQ1.out.2.2.1 HQ1.out.1 hsz5 ?_; intro v6 w6 o6 g6 p6; have HA6 : Hid (Ap w w6 p d F4 (N + 1048584) (bS (M ++ [(t, m)]) (n + 3) false false 0 0) (M.map Prod.fst ++ [t]) (M.map Prod.snd) v6 y) := HA5.out.appa o6 g6 p6; clear o6 g6 p6; have c60 : w6.cell? ⟨b, off + i, none⟩ = some (.slice xa2 m.length xc2) := (by rw [HA6.out.ls.bel.cell (World.block_lt_of_cell? _ _ HC0.out), HC0.out]); have cv6 := conv_string w6 _ _ (HRX.out.below HA6.out.ls.bel); have HL2 : Hid (RdsK 1 (w6.alloc (.cells #[Value.string ⟨m.toArray⟩] 9)) (.slice (some ⟨w6.heap.size, 0, none⟩) 1 1) 1 [Value.string ⟨m.toArray⟩]) := RdsK.of_own (lit_own w6 [Value.string ⟨m.toArray⟩] 9 (by simp [maxLen])); have HA7 : Hid (Ap w (w6.alloc (.cells #[Value.string ⟨m.toArray⟩] 9)) p d F4 (N + 1048584) (bS (M ++ [(t, m)]) (n + 3) false false 0 0) (M.map Prod.fst ++ [t]) (M.map Prod.snd) v6 y) := HA6.out.below ((Below.refl _ _).alloc (Nat.le_refl _) _); have hsz7 : w.heap.size ≤ (w6.alloc (.cells #[Value.string ⟨m.toArray⟩] 9)).heap.size := HA7.out.ls.bel.size) | (at_builtin; refine wpList_appF rfl _ _ 42 rfl w.heap.size 9 i0 (.string ⟨#[]⟩) 1 16 Try.underlying42 hi0 hi1 hi2 hi3 rfl (by decide) y (M.map Prod.snd).length (sv (M.map Prod.snd)) rfl HA7.out.b (.slice (some ⟨w6.heap.size, 0, none⟩) 1 1) 1 [Value.string ⟨m.toArray⟩] rfl HL2.out (fun u hu => by simp at hu; subst hu; rfl) HQ1.out.2.2.2 HQ1.out.2.1 hsz7 ?_; intro v8 w8 o8 g8 p8; have HA8 : Hid (Ap w w8 p d F4 (N + 1048584) (bS (M ++ [(t, m)]) (n + 3) false false 0 0) (M.map Prod.fst ++ [t]) (M.map Prod.snd ++ [m]) v6 v8) := HA7.out.appb o8 g8 p8; clear o8 g8 p8))
          go_wp2_with fail
          go_roundg (30 - (i + 1))
          case measure => exact Nat.lt_of_lt_of_le (Nat.sub_lt_sub_left hi30 (Nat.lt_succ_self i)) hkx
          case rel => exact ⟨i + 1, N + 1048584, n + 3, F4, M ++ [(t, m)], v6, v8, rfl, rfl, by first | (rw [HW1.out]; rfl) | rfl, hi30, Nat.le_refl _, by omega, by simp; omega, by omega, HM2, by rw [List.map_append, List.map_append]; exact HA8⟩
    · by_cases hq1 : i < n1
      · have hz1 : (i : Int) < (n1 : Int) := by omega
        by_cases hq2 : i < n2
        · have hz2 : (i : Int) < (n2 : Int) := by omega
          have hz3 : ¬ (i : Int) < 30 := by omega
          have kL := list_ls w wr p d N F _ HA.out.ls
          have HBL : Hid ((blist (bS M n false false 0 0)).length = M.length) := blist_b rfl rfl HM.out
          have HML : Hid ((M.map Prod.fst).length = M.length) := List.length_map _
          clear hgo
          go_wp2_with fail
          refine kL.mono ?_
          rintro e w5 ⟨lv, rfl, o5, b5⟩
          have HA5 : Hid (Ap w w5 p d F N (bS M n false false 0 0) (M.map Prod.fst) (M.map Prod.snd) x y) := HA.out.below b5
          obtain ⟨la, lc, hlv, -⟩ := o5.rds.len
          obtain ⟨L, hL⟩ : ∃ L, L = M.length := ⟨_, rfl⟩
          have hlv2 : lv = .slice la L lc := by rw [hL, ← HBL.out]; exact hlv
          obtain ⟨xa, xc, hxv, hx1, hx2, hxs⟩ := HA5.out.rows.1.len
          obtain ⟨ya, yc, hyv, hy1, hy2, hys⟩ := HA5.out.rows.2.len
          rw [List.length_map, ← hL] at hxv hyv hx1 hy1
          subst hlv2 hxv hyv
          have HXS : Hid (0 < (M.map Prod.fst).length → ∃ b o, xa = some ⟨b, o, none⟩ ∧ ∀ i (hi : i < (M.map Prod.fst).length), w5.cell? ⟨b, o + i, none⟩ = some (.string ⟨(M.map Prod.fst)[i].toArray⟩)) := hxs
          have HLM : Hid (L = M.length) := hL
          have HLI : Hid (M.length ≤ i) := hMl
          unfold maxLen at hx2 hy2
          clear kL o5 b5 hlv hxs hys hL HBL HML hMl HA
          by_cases hL0 : L = 0
          · subst hL0
            go_wp2_with fail
            refine wp_loop_rounds 1 ?_
            rw [rounds_succ]
            go_wp2_with fail
            go_ret
            exact ⟨rfl, HA5.out.ls.bel⟩
          · have hLp : (0 : Int) < (L : Int) := by omega
            obtain ⟨K, hK⟩ : ∃ K, K = absN gn % L := ⟨_, rfl⟩
            have hK1 : K < L := by rw [hK]; exact Nat.mod_lt _ (by omega)
            have hK2 : (absN gn : Int) % (L : Int) = (K : Int) := by rw [hK]; omega
            have kAb := abs_any w5 gn HG.out.1 HG.out.2
            have hab := absN_lt HG.out.1 HG.out.2
            obtain ⟨A, hA⟩ : ∃ A, A = absN gn := ⟨_, rfl⟩
            rw [← hA] at kAb hK2 hab
            have hKM : K < (M.map Prod.fst).length := by rw [List.length_map, ← HLM.out]; exact hK1
            have hKM' : K < M.length := by rw [← HLM.out]; exact hK1
            obtain ⟨xb, xo, rfl, hxc⟩ := HXS.out (by omega)
            have cK := hxc K hKM
            rw [List.getElem_map] at cK
            have hmem := List.getElem_mem hKM'
            obtain ⟨tK, htK⟩ : ∃ t, t = M[K].1 := ⟨_, rfl⟩
            rw [← htK] at cK
            have hbn := HM.out.nm _ hmem
            rw [← htK] at hbn
            have kD := del_ls w w5 p d N F (bS M n false false 0 0) tK HA5.out.ls (Nat.le_trans (bNm_len hbn) (by decide)) (by show n < 1000000; omega)
            have hbd : bdel (bS M n false false 0 0) tK = (0, bS (mDel M tK) (n + 1) false false 0 0) := by
              rcases bdel_in (M := M) (n := n) (st := false) (op := 0) (part := 0) hbn (by rw [htK]; exact in_mHas (l := M[K].2) hmem) with e | ⟨_, e, _⟩
              · exact e
              · cases e
            rw [hbd] at kD
            have HTK : Hid (∀ h : K < M.length, tK = (M[K]'h).1) := fun _ => htK
            have HKM : Hid (K < M.length) := hKM'
            clear hK hA hxc hbd hbn htK hmem hKM hKM'
            go_wp2_with fail
            refine kAb.mono ?_
            rintro e wq ⟨rfl, rfl⟩
            clear kAb
            go_wp2_with fail
            refine kD.mono ?_
            rintro e w6 ⟨rfl, k6⟩
            obtain ⟨F6, h6⟩ := HA5.out.mv k6
            have HA6 : Hid (Ap w w6 p d F6 N (bS (mDel M tK) (n + 1) false false 0 0) (M.map Prod.fst) (M.map Prod.snd) (.slice (some ⟨xb, xo, none⟩) L xc) (.slice ya L yc)) := h6
            have HK2 : Hid ((A : Int) % (L : Int) = (K : Int)) := hK2
            clear kD k6 h6 cK HA5 HXS hLp hK2
            go_wp2_with fail
            go_loopg [16, 17, 18] L (fun kx v16 _ _ wr => ∃ j : Nat, v16 = .int .i64 (j : Int) ∧ j ≤ L ∧ L - j ≤ kx ∧ Hid (Below w6.heap.size w6 wr))
            case atStart => exact ⟨0, rfl, by omega, Nat.le_refl _, Below.refl _ _⟩
            case round =>
              obtain ⟨j, rfl, hj, hjx, HBj⟩ := hrel
              by_cases hjL : j < L
              · have hjz : (j : Int) < (L : Int) := by omega
                have h7 := HA6.out.below HBj.out
                obtain ⟨xa', xc', hxv, -, -, hxs⟩ := h7.rows.1.len
                obtain ⟨ya', yc', hyv, -, -, hys⟩ := h7.rows.2.len
                rw [List.length_map, ← HLM.out] at hxv hyv
                simp only [Value.slice.injEq, true_and] at hxv hyv
                obtain ⟨rfl, rfl⟩ := hxv
                obtain ⟨rfl, rfl⟩ := hyv
                have hjM : j < M.length := by rw [← HLM.out]; exact hjL
                have hj1 : j < (M.map Prod.fst).length := by rw [List.length_map]; exact hjM
                have hj2 : j < (M.map Prod.snd).length := by rw [List.length_map]; exact hjM
                obtain ⟨xb', xo', hxe, hxc⟩ := hxs (by omega)
                simp only [Option.some.injEq, Addr.mk.injEq, and_true] at hxe
                obtain ⟨rfl, rfl⟩ := hxe
                obtain ⟨yb, yo, rfl, hyc⟩ := hys (by omega)
                have cj := hxc j hj1
                have cy := hyc j hj2
                rw [List.getElem_map] at cj cy
                have hmem := List.getElem_mem hjM
                have hbn := HM.out.nm _ hmem
                have kG := get_ls w wr p d N F6 (bS (mDel M tK) (n + 1) false false 0 0) (M[j].1) h7.ls (Nat.le_trans (bNm_len hbn) (by decide)) (by omega)
                have HW1 : Hid (wrap64 ((j : Int) + 1) = (j : Int) + 1) := by apply hide; rw [← IntWalk.i64_left, IntKind.wrap_i64]; omega
                have HBO : Hid (∀ w', Below wr.heap.size wr w' → w'.cell? ⟨yb, yo + j, none⟩ = some (.string ⟨M[j].2.toArray⟩)) := fun w' hb => by rw [hb.cell (World.block_lt_of_cell? _ _ cy), cy]
                by_cases hjK : j = K
                · have hgb : bget (bS (mDel M tK) (n + 1) false false 0 0) (M[j].1) = (120, []) := by
                    subst hjK
                    rw [← HTK.out HKM.out]
                    exact bget_out (M := mDel M tK) rfl rfl (by rw [HTK.out HKM.out]; exact hbn) (del_out tK)
                  rw [hgb] at kG
                  obtain ⟨tj, htj⟩ : ∃ t, t = M[j].1 := ⟨_, rfl⟩
                  obtain ⟨mj, hmj⟩ : ∃ t, t = M[j].2 := ⟨_, rfl⟩
                  rw [← htj] at cj kG
                  rw [← hmj] at HBO cy
                  clear hgb htj hmj hbn hmem hxc hyc hxs hys h7 hj1 hj2 hjM
                  subst hjK
                  go_wp2_with fail
                  refine kG.mono ?_
                  rintro e w8 ⟨v8, rfl, o8, b8⟩
                  have HB8 : Hid (Below w6.heap.size w6 w8) := HBj.out.trans (b8.mono HBj.out.size)
                  have zy := fun nq os => cell_gro (HBO.out w8 b8) nq os
                  obtain ⟨za, zc, hz8, -⟩ := o8.reads
                  have zcv := fun nq os => conv_string (Go.Sort.grow (w8.drewN nq) os) v8 _ (o8.reads.below (below_gr w8 nq os))
                  subst hz8
                  clear kG o8 b8 cj cy
                  go_wp2_with fail
                  have hk2 : decide ((j : Int) = (A : Int) % (L : Int)) = true := by rw [HK2.out]; simp
                  have hk3 : ((j : Int) == (A : Int) % (L : Int)) = true := by rw [HK2.out]; simp
                  have hk4 : ((j : Int) != (A : Int) % (L : Int)) = false := by rw [HK2.out]; simp
                  refine wp_region_quiet_grown (by assumption) (by kernel_rfl) ?_
                  repeat (go_big_quiet_step (fail))
                  refine wpQuiet_nil ?_
                  intro T hw'
                  obtain ⟨⟨nq, osq⟩, hw''⟩ := hw'
                  have HBT : Hid (Below w6.heap.size w6 T) := by apply hide; rw [hw'']; exact HB8.out.trans ((below_gr w8 nq osq).mono HB8.out.size)
                  clear hw'' zy zcv hk2 hk3 hk4
                  go_wp2_with fail
                  go_roundg (L - (j + 1))
                  case measure => exact Nat.lt_of_lt_of_le (Nat.sub_lt_sub_left hjL (Nat.lt_succ_self j)) hjx
                  case rel => exact ⟨j + 1, by first | (rw [HW1.out]; rfl) | rfl, hjL, Nat.le_refl _, HBT⟩
                · have hgb : bget (bS (mDel M tK) (n + 1) false false 0 0) (M[j].1) = (0, M[j].2) :=
                    bget_in (M := mDel M tK) rfl (HM.out.del tK) rfl (del_in hmem (by rw [HTK.out HKM.out]; exact fst_inj HM.out hjM HKM.out hjK))
                  rw [hgb] at kG
                  obtain ⟨tj, htj⟩ : ∃ t, t = M[j].1 := ⟨_, rfl⟩
                  obtain ⟨mj, hmj⟩ : ∃ t, t = M[j].2 := ⟨_, rfl⟩
                  rw [← htj] at cj kG
                  rw [← hmj] at HBO cy kG
                  have hk1 : ¬ (j : Int) = (K : Int) := by omega
                  have HK1 : Hid (¬ (j : Int) = (K : Int)) := hk1
                  clear hk1
                  clear hgb htj hmj hbn hmem hxc hyc hxs hys h7 hj1 hj2 hjM
                  go_wp2_with fail
                  refine kG.mono ?_
                  rintro e w8 ⟨v8, rfl, o8, b8⟩
                  have HB8 : Hid (Below w6.heap.size w6 w8) := HBj.out.trans (b8.mono HBj.out.size)
                  have zy := fun nq os => cell_gro (HBO.out w8 b8) nq os
                  obtain ⟨za, zc, hz8, -⟩ := o8.reads
                  have zcv := fun nq os => conv_string (Go.Sort.grow (w8.drewN nq) os) v8 _ (o8.reads.below (below_gr w8 nq os))
                  subst hz8
                  clear kG o8 b8 cj cy
                  go_wp2_with fail
                  have hk2 : decide ((j : Int) = (A : Int) % (L : Int)) = false := by rw [HK2.out]; exact decide_eq_false HK1.out
                  have hk3 : ((j : Int) == (A : Int) % (L : Int)) = false := by rw [HK2.out, beq_eq_false_iff_ne]; exact HK1.out
                  have hk4 : ((j : Int) != (A : Int) % (L : Int)) = true := by rw [HK2.out, bne_iff_ne]; exact HK1.out
                  refine wp_region_quiet_grown (by assumption) (by kernel_rfl) ?_
                  repeat (go_big_quiet_step (fail))
                  refine wpQuiet_nil ?_
                  intro T hw'
                  obtain ⟨⟨nq, osq⟩, hw''⟩ := hw'
                  have HBT : Hid (Below w6.heap.size w6 T) := by apply hide; rw [hw'']; exact HB8.out.trans ((below_gr w8 nq osq).mono HB8.out.size)
                  clear hw'' zy zcv hk2 hk3 hk4
                  go_wp2_with fail
                  go_roundg (L - (j + 1))
                  case measure => exact Nat.lt_of_lt_of_le (Nat.sub_lt_sub_left hjL (Nat.lt_succ_self j)) hjx
                  case rel => exact ⟨j + 1, by first | (rw [HW1.out]; rfl) | rfl, hjL, Nat.le_refl _, HBT⟩
              · have hjz : ¬ (j : Int) < (L : Int) := by omega
                go_wp2_with fail
                go_ret
                exact ⟨rfl, HA6.out.ls.bel.trans (HBj.out.mono HA6.out.ls.bel.size)⟩
        · have hz2 : ¬ (i : Int) < (n2 : Int) := by omega
          have kL := list_ls w wr p d N F _ HA.out.ls
          have HBL : Hid ((blist (bS M n false false 0 0)).length = M.length) := blist_b rfl rfl HM.out
          have HML : Hid ((M.map Prod.fst).length = M.length) := List.length_map _
          clear hgo
          go_wp2_with fail
          refine kL.mono ?_
          rintro e w5 ⟨lv, rfl, o5, b5⟩
          have HA5 : Hid (Ap w w5 p d F N (bS M n false false 0 0) (M.map Prod.fst) (M.map Prod.snd) x y) := HA.out.below b5
          obtain ⟨la, lc, hlv, -⟩ := o5.rds.len
          obtain ⟨L, hL⟩ : ∃ L, L = M.length := ⟨_, rfl⟩
          have hlv2 : lv = .slice la L lc := by rw [hL, ← HBL.out]; exact hlv
          obtain ⟨xa, xc, hxv, hx1, hx2, hxs⟩ := HA5.out.rows.1.len
          obtain ⟨ya, yc, hyv, hy1, hy2, hys⟩ := HA5.out.rows.2.len
          rw [List.length_map, ← hL] at hxv hyv hx1 hy1
          subst hlv2 hxv hyv
          have HXS : Hid (0 < (M.map Prod.fst).length → ∃ b o, xa = some ⟨b, o, none⟩ ∧ ∀ i (hi : i < (M.map Prod.fst).length), w5.cell? ⟨b, o + i, none⟩ = some (.string ⟨(M.map Prod.fst)[i].toArray⟩)) := hxs
          have HLM : Hid (L = M.length) := hL
          have HLI : Hid (M.length ≤ i) := hMl
          unfold maxLen at hx2 hy2
          clear kL o5 b5 hlv hxs hys hL HBL HML hMl HA
          by_cases hL0 : L = 0
          · subst hL0
            go_wp2_with fail
            refine wp_loop_rounds 1 ?_
            rw [rounds_succ]
            go_wp2_with fail
            go_ret
            exact ⟨rfl, HA5.out.ls.bel⟩
          · have hLp : (0 : Int) < (L : Int) := by omega
            obtain ⟨K, hK⟩ : ∃ K, K = absN gn % L := ⟨_, rfl⟩
            have hK1 : K < L := by rw [hK]; exact Nat.mod_lt _ (by omega)
            have hK2 : (absN gn : Int) % (L : Int) = (K : Int) := by rw [hK]; omega
            have kAb := abs_any w5 gn HG.out.1 HG.out.2
            have hab := absN_lt HG.out.1 HG.out.2
            obtain ⟨A, hA⟩ : ∃ A, A = absN gn := ⟨_, rfl⟩
            rw [← hA] at kAb hK2 hab
            have hKM : K < (M.map Prod.fst).length := by rw [List.length_map, ← HLM.out]; exact hK1
            have hKM' : K < M.length := by rw [← HLM.out]; exact hK1
            obtain ⟨xb, xo, rfl, hxc⟩ := HXS.out (by omega)
            have cK := hxc K hKM
            rw [List.getElem_map] at cK
            have hmem := List.getElem_mem hKM'
            obtain ⟨tK, htK⟩ : ∃ t, t = M[K].1 := ⟨_, rfl⟩
            rw [← htK] at cK
            have hbn := HM.out.nm _ hmem
            rw [← htK] at hbn
            have kD := del_ls w w5 p d N F (bS M n false false 0 0) tK HA5.out.ls (Nat.le_trans (bNm_len hbn) (by decide)) (by show n < 1000000; omega)
            have hbd : bdel (bS M n false false 0 0) tK = (0, bS (mDel M tK) (n + 1) false false 0 0) := by
              rcases bdel_in (M := M) (n := n) (st := false) (op := 0) (part := 0) hbn (by rw [htK]; exact in_mHas (l := M[K].2) hmem) with e | ⟨_, e, _⟩
              · exact e
              · cases e
            rw [hbd] at kD
            have HTK : Hid (∀ h : K < M.length, tK = (M[K]'h).1) := fun _ => htK
            have HKM : Hid (K < M.length) := hKM'
            clear hK hA hxc hbd hbn htK hmem hKM hKM'
            go_wp2_with fail
            refine kAb.mono ?_
            rintro e wq ⟨rfl, rfl⟩
            clear kAb
            go_wp2_with fail
            refine kD.mono ?_
            rintro e w6 ⟨rfl, k6⟩
            obtain ⟨F6, h6⟩ := HA5.out.mv k6
            have HA6 : Hid (Ap w w6 p d F6 N (bS (mDel M tK) (n + 1) false false 0 0) (M.map Prod.fst) (M.map Prod.snd) (.slice (some ⟨xb, xo, none⟩) L xc) (.slice ya L yc)) := h6
            have HK2 : Hid ((A : Int) % (L : Int) = (K : Int)) := hK2
            clear kD k6 h6 cK HA5 HXS hLp hK2
            go_wp2_with fail
            go_loopg [16, 17, 18] L (fun kx v16 _ _ wr => ∃ j : Nat, v16 = .int .i64 (j : Int) ∧ j ≤ L ∧ L - j ≤ kx ∧ Hid (Below w6.heap.size w6 wr))
            case atStart => exact ⟨0, rfl, by omega, Nat.le_refl _, Below.refl _ _⟩
            case round =>
              obtain ⟨j, rfl, hj, hjx, HBj⟩ := hrel
              by_cases hjL : j < L
              · have hjz : (j : Int) < (L : Int) := by omega
                have h7 := HA6.out.below HBj.out
                obtain ⟨xa', xc', hxv, -, -, hxs⟩ := h7.rows.1.len
                obtain ⟨ya', yc', hyv, -, -, hys⟩ := h7.rows.2.len
                rw [List.length_map, ← HLM.out] at hxv hyv
                simp only [Value.slice.injEq, true_and] at hxv hyv
                obtain ⟨rfl, rfl⟩ := hxv
                obtain ⟨rfl, rfl⟩ := hyv
                have hjM : j < M.length := by rw [← HLM.out]; exact hjL
                have hj1 : j < (M.map Prod.fst).length := by rw [List.length_map]; exact hjM
                have hj2 : j < (M.map Prod.snd).length := by rw [List.length_map]; exact hjM
                obtain ⟨xb', xo', hxe, hxc⟩ := hxs (by omega)
                simp only [Option.some.injEq, Addr.mk.injEq, and_true] at hxe
                obtain ⟨rfl, rfl⟩ := hxe
                obtain ⟨yb, yo, rfl, hyc⟩ := hys (by omega)
                have cj := hxc j hj1
                have cy := hyc j hj2
                rw [List.getElem_map] at cj cy
                have hmem := List.getElem_mem hjM
                have hbn := HM.out.nm _ hmem
                have kG := get_ls w wr p d N F6 (bS (mDel M tK) (n + 1) false false 0 0) (M[j].1) h7.ls (Nat.le_trans (bNm_len hbn) (by decide)) (by omega)
                have HW1 : Hid (wrap64 ((j : Int) + 1) = (j : Int) + 1) := by apply hide; rw [← IntWalk.i64_left, IntKind.wrap_i64]; omega
                have HBO : Hid (∀ w', Below wr.heap.size wr w' → w'.cell? ⟨yb, yo + j, none⟩ = some (.string ⟨M[j].2.toArray⟩)) := fun w' hb => by rw [hb.cell (World.block_lt_of_cell? _ _ cy), cy]
                by_cases hjK : j = K
                · have hgb : bget (bS (mDel M tK) (n + 1) false false 0 0) (M[j].1) = (120, []) := by
                    subst hjK
                    rw [← HTK.out HKM.out]
                    exact bget_out (M := mDel M tK) rfl rfl (by rw [HTK.out HKM.out]; exact hbn) (del_out tK)
                  rw [hgb] at kG
                  obtain ⟨tj, htj⟩ : ∃ t, t = M[j].1 := ⟨_, rfl⟩
                  obtain ⟨mj, hmj⟩ : ∃ t, t = M[j].2 := ⟨_, rfl⟩
                  rw [← htj] at cj kG
                  rw [← hmj] at HBO cy
                  clear hgb htj hmj hbn hmem hxc hyc hxs hys h7 hj1 hj2 hjM
                  subst hjK
                  go_wp2_with fail
                  refine kG.mono ?_
                  rintro e w8 ⟨v8, rfl, o8, b8⟩
                  have HB8 : Hid (Below w6.heap.size w6 w8) := HBj.out.trans (b8.mono HBj.out.size)
                  have zy := fun nq os => cell_gro (HBO.out w8 b8) nq os
                  obtain ⟨za, zc, hz8, -⟩ := o8.reads
                  have zcv := fun nq os => conv_string (Go.Sort.grow (w8.drewN nq) os) v8 _ (o8.reads.below (below_gr w8 nq os))
                  subst hz8
                  clear kG o8 b8 cj cy
                  go_wp2_with fail
                  have hk2 : decide ((j : Int) = (A : Int) % (L : Int)) = true := by rw [HK2.out]; simp
                  have hk3 : ((j : Int) == (A : Int) % (L : Int)) = true := by rw [HK2.out]; simp
                  have hk4 : ((j : Int) != (A : Int) % (L : Int)) = false := by rw [HK2.out]; simp
                  refine wp_region_quiet_grown (by assumption) (by kernel_rfl) ?_
                  repeat (go_big_quiet_step (fail))
                  refine wpQuiet_nil ?_
                  intro T hw'
                  obtain ⟨⟨nq, osq⟩, hw''⟩ := hw'
                  have HBT : Hid (Below w6.heap.size w6 T) := by apply hide; rw [hw'']; exact HB8.out.trans ((below_gr w8 nq osq).mono HB8.out.size)
                  clear hw'' zy zcv hk2 hk3 hk4
                  go_wp2_with fail
                  go_roundg (L - (j + 1))
                  case measure => exact Nat.lt_of_lt_of_le (Nat.sub_lt_sub_left hjL (Nat.lt_succ_self j)) hjx
                  case rel => exact ⟨j + 1, by first | (rw [HW1.out]; rfl) | rfl, hjL, Nat.le_refl _, HBT⟩
                · have hgb : bget (bS (mDel M tK) (n + 1) false false 0 0) (M[j].1) = (0, M[j].2) :=
                    bget_in (M := mDel M tK) rfl (HM.out.del tK) rfl (del_in hmem (by rw [HTK.out HKM.out]; exact fst_inj HM.out hjM HKM.out hjK))
                  rw [hgb] at kG
                  obtain ⟨tj, htj⟩ : ∃ t, t = M[j].1 := ⟨_, rfl⟩
                  obtain ⟨mj, hmj⟩ : ∃ t, t = M[j].2 := ⟨_, rfl⟩
                  rw [← htj] at cj kG
                  rw [← hmj] at HBO cy kG
                  have hk1 : ¬ (j : Int) = (K : Int) := by omega
                  have HK1 : Hid (¬ (j : Int) = (K : Int)) := hk1
                  clear hk1
                  clear hgb htj hmj hbn hmem hxc hyc hxs hys h7 hj1 hj2 hjM
                  go_wp2_with fail
                  refine kG.mono ?_
                  rintro e w8 ⟨v8, rfl, o8, b8⟩
                  have HB8 : Hid (Below w6.heap.size w6 w8) := HBj.out.trans (b8.mono HBj.out.size)
                  have zy := fun nq os => cell_gro (HBO.out w8 b8) nq os
                  obtain ⟨za, zc, hz8, -⟩ := o8.reads
                  have zcv := fun nq os => conv_string (Go.Sort.grow (w8.drewN nq) os) v8 _ (o8.reads.below (below_gr w8 nq os))
                  subst hz8
                  clear kG o8 b8 cj cy
                  go_wp2_with fail
                  have hk2 : decide ((j : Int) = (A : Int) % (L : Int)) = false := by rw [HK2.out]; exact decide_eq_false HK1.out
                  have hk3 : ((j : Int) == (A : Int) % (L : Int)) = false := by rw [HK2.out, beq_eq_false_iff_ne]; exact HK1.out
                  have hk4 : ((j : Int) != (A : Int) % (L : Int)) = true := by rw [HK2.out, bne_iff_ne]; exact HK1.out
                  refine wp_region_quiet_grown (by assumption) (by kernel_rfl) ?_
                  repeat (go_big_quiet_step (fail))
                  refine wpQuiet_nil ?_
                  intro T hw'
                  obtain ⟨⟨nq, osq⟩, hw''⟩ := hw'
                  have HBT : Hid (Below w6.heap.size w6 T) := by apply hide; rw [hw'']; exact HB8.out.trans ((below_gr w8 nq osq).mono HB8.out.size)
                  clear hw'' zy zcv hk2 hk3 hk4
                  go_wp2_with fail
                  go_roundg (L - (j + 1))
                  case measure => exact Nat.lt_of_lt_of_le (Nat.sub_lt_sub_left hjL (Nat.lt_succ_self j)) hjx
                  case rel => exact ⟨j + 1, by first | (rw [HW1.out]; rfl) | rfl, hjL, Nat.le_refl _, HBT⟩
              · have hjz : ¬ (j : Int) < (L : Int) := by omega
                go_wp2_with fail
                go_ret
                exact ⟨rfl, HA6.out.ls.bel.trans (HBj.out.mono HA6.out.ls.bel.size)⟩
      · have hz1 : ¬ (i : Int) < (n1 : Int) := by omega
        have kL := list_ls w wr p d N F _ HA.out.ls
        have HBL : Hid ((blist (bS M n false false 0 0)).length = M.length) := blist_b rfl rfl HM.out
        have HML : Hid ((M.map Prod.fst).length = M.length) := List.length_map _
        clear hgo
        go_wp2_with fail
        refine kL.mono ?_
        rintro e w5 ⟨lv, rfl, o5, b5⟩
        have HA5 : Hid (Ap w w5 p d F N (bS M n false false 0 0) (M.map Prod.fst) (M.map Prod.snd) x y) := HA.out.below b5
        obtain ⟨la, lc, hlv, -⟩ := o5.rds.len
        obtain ⟨L, hL⟩ : ∃ L, L = M.length := ⟨_, rfl⟩
        have hlv2 : lv = .slice la L lc := by rw [hL, ← HBL.out]; exact hlv
        obtain ⟨xa, xc, hxv, hx1, hx2, hxs⟩ := HA5.out.rows.1.len
        obtain ⟨ya, yc, hyv, hy1, hy2, hys⟩ := HA5.out.rows.2.len
        rw [List.length_map, ← hL] at hxv hyv hx1 hy1
        subst hlv2 hxv hyv
        have HXS : Hid (0 < (M.map Prod.fst).length → ∃ b o, xa = some ⟨b, o, none⟩ ∧ ∀ i (hi : i < (M.map Prod.fst).length), w5.cell? ⟨b, o + i, none⟩ = some (.string ⟨(M.map Prod.fst)[i].toArray⟩)) := hxs
        have HLM : Hid (L = M.length) := hL
        have HLI : Hid (M.length ≤ i) := hMl
        unfold maxLen at hx2 hy2
        clear kL o5 b5 hlv hxs hys hL HBL HML hMl HA
        by_cases hL0 : L = 0
        · subst hL0
          go_wp2_with fail
          refine wp_loop_rounds 1 ?_
          rw [rounds_succ]
          go_wp2_with fail
          go_ret
          exact ⟨rfl, HA5.out.ls.bel⟩
        · have hLp : (0 : Int) < (L : Int) := by omega
          obtain ⟨K, hK⟩ : ∃ K, K = absN gn % L := ⟨_, rfl⟩
          have hK1 : K < L := by rw [hK]; exact Nat.mod_lt _ (by omega)
          have hK2 : (absN gn : Int) % (L : Int) = (K : Int) := by rw [hK]; omega
          have kAb := abs_any w5 gn HG.out.1 HG.out.2
          have hab := absN_lt HG.out.1 HG.out.2
          obtain ⟨A, hA⟩ : ∃ A, A = absN gn := ⟨_, rfl⟩
          rw [← hA] at kAb hK2 hab
          have hKM : K < (M.map Prod.fst).length := by rw [List.length_map, ← HLM.out]; exact hK1
          have hKM' : K < M.length := by rw [← HLM.out]; exact hK1
          obtain ⟨xb, xo, rfl, hxc⟩ := HXS.out (by omega)
          have cK := hxc K hKM
          rw [List.getElem_map] at cK
          have hmem := List.getElem_mem hKM'
          obtain ⟨tK, htK⟩ : ∃ t, t = M[K].1 := ⟨_, rfl⟩
          rw [← htK] at cK
          have hbn := HM.out.nm _ hmem
          rw [← htK] at hbn
          have kD := del_ls w w5 p d N F (bS M n false false 0 0) tK HA5.out.ls (Nat.le_trans (bNm_len hbn) (by decide)) (by show n < 1000000; omega)
          have hbd : bdel (bS M n false false 0 0) tK = (0, bS (mDel M tK) (n + 1) false false 0 0) := by
            rcases bdel_in (M := M) (n := n) (st := false) (op := 0) (part := 0) hbn (by rw [htK]; exact in_mHas (l := M[K].2) hmem) with e | ⟨_, e, _⟩
            · exact e
            · cases e
          rw [hbd] at kD
          have HTK : Hid (∀ h : K < M.length, tK = (M[K]'h).1) := fun _ => htK
          have HKM : Hid (K < M.length) := hKM'
          clear hK hA hxc hbd hbn htK hmem hKM hKM'
          go_wp2_with fail
          refine kAb.mono ?_
          rintro e wq ⟨rfl, rfl⟩
          clear kAb
          go_wp2_with fail
          refine kD.mono ?_
          rintro e w6 ⟨rfl, k6⟩
          obtain ⟨F6, h6⟩ := HA5.out.mv k6
          have HA6 : Hid (Ap w w6 p d F6 N (bS (mDel M tK) (n + 1) false false 0 0) (M.map Prod.fst) (M.map Prod.snd) (.slice (some ⟨xb, xo, none⟩) L xc) (.slice ya L yc)) := h6
          have HK2 : Hid ((A : Int) % (L : Int) = (K : Int)) := hK2
          clear kD k6 h6 cK HA5 HXS hLp hK2
          go_wp2_with fail
          go_loopg [16, 17, 18] L (fun kx v16 _ _ wr => ∃ j : Nat, v16 = .int .i64 (j : Int) ∧ j ≤ L ∧ L - j ≤ kx ∧ Hid (Below w6.heap.size w6 wr))
          case atStart => exact ⟨0, rfl, by omega, Nat.le_refl _, Below.refl _ _⟩
          case round =>
            obtain ⟨j, rfl, hj, hjx, HBj⟩ := hrel
            by_cases hjL : j < L
            · have hjz : (j : Int) < (L : Int) := by omega
              have h7 := HA6.out.below HBj.out
              obtain ⟨xa', xc', hxv, -, -, hxs⟩ := h7.rows.1.len
              obtain ⟨ya', yc', hyv, -, -, hys⟩ := h7.rows.2.len
              rw [List.length_map, ← HLM.out] at hxv hyv
              simp only [Value.slice.injEq, true_and] at hxv hyv
              obtain ⟨rfl, rfl⟩ := hxv
              obtain ⟨rfl, rfl⟩ := hyv
              have hjM : j < M.length := by rw [← HLM.out]; exact hjL
              have hj1 : j < (M.map Prod.fst).length := by rw [List.length_map]; exact hjM
              have hj2 : j < (M.map Prod.snd).length := by rw [List.length_map]; exact hjM
              obtain ⟨xb', xo', hxe, hxc⟩ := hxs (by omega)
              simp only [Option.some.injEq, Addr.mk.injEq, and_true] at hxe
              obtain ⟨rfl, rfl⟩ := hxe
              obtain ⟨yb, yo, rfl, hyc⟩ := hys (by omega)
              have cj := hxc j hj1
              have cy := hyc j hj2
              rw [List.getElem_map] at cj cy
              have hmem := List.getElem_mem hjM
              have hbn := HM.out.nm _ hmem
              have kG := get_ls w wr p d N F6 (bS (mDel M tK) (n + 1) false false 0 0) (M[j].1) h7.ls (Nat.le_trans (bNm_len hbn) (by decide)) (by omega)
              have HW1 : Hid (wrap64 ((j : Int) + 1) = (j : Int) + 1) := by apply hide; rw [← IntWalk.i64_left, IntKind.wrap_i64]; omega
              have HBO : Hid (∀ w', Below wr.heap.size wr w' → w'.cell? ⟨yb, yo + j, none⟩ = some (.string ⟨M[j].2.toArray⟩)) := fun w' hb => by rw [hb.cell (World.block_lt_of_cell? _ _ cy), cy]
              by_cases hjK : j = K
              · have hgb : bget (bS (mDel M tK) (n + 1) false false 0 0) (M[j].1) = (120, []) := by
                  subst hjK
                  rw [← HTK.out HKM.out]
                  exact bget_out (M := mDel M tK) rfl rfl (by rw [HTK.out HKM.out]; exact hbn) (del_out tK)
                rw [hgb] at kG
                obtain ⟨tj, htj⟩ : ∃ t, t = M[j].1 := ⟨_, rfl⟩
                obtain ⟨mj, hmj⟩ : ∃ t, t = M[j].2 := ⟨_, rfl⟩
                rw [← htj] at cj kG
                rw [← hmj] at HBO cy
                clear hgb htj hmj hbn hmem hxc hyc hxs hys h7 hj1 hj2 hjM
                subst hjK
                go_wp2_with fail
                refine kG.mono ?_
                rintro e w8 ⟨v8, rfl, o8, b8⟩
                have HB8 : Hid (Below w6.heap.size w6 w8) := HBj.out.trans (b8.mono HBj.out.size)
                have zy := fun nq os => cell_gro (HBO.out w8 b8) nq os
                obtain ⟨za, zc, hz8, -⟩ := o8.reads
                have zcv := fun nq os => conv_string (Go.Sort.grow (w8.drewN nq) os) v8 _ (o8.reads.below (below_gr w8 nq os))
                subst hz8
                clear kG o8 b8 cj cy
                go_wp2_with fail
                have hk2 : decide ((j : Int) = (A : Int) % (L : Int)) = true := by rw [HK2.out]; simp
                have hk3 : ((j : Int) == (A : Int) % (L : Int)) = true := by rw [HK2.out]; simp
                have hk4 : ((j : Int) != (A : Int) % (L : Int)) = false := by rw [HK2.out]; simp
                refine wp_region_quiet_grown (by assumption) (by kernel_rfl) ?_
                repeat (go_big_quiet_step (fail))
                refine wpQuiet_nil ?_
                intro T hw'
                obtain ⟨⟨nq, osq⟩, hw''⟩ := hw'
                have HBT : Hid (Below w6.heap.size w6 T) := by apply hide; rw [hw'']; exact HB8.out.trans ((below_gr w8 nq osq).mono HB8.out.size)
                clear hw'' zy zcv hk2 hk3 hk4
                go_wp2_with fail
                go_roundg (L - (j + 1))
                case measure => exact Nat.lt_of_lt_of_le (Nat.sub_lt_sub_left hjL (Nat.lt_succ_self j)) hjx
                case rel => exact ⟨j + 1, by first | (rw [HW1.out]; rfl) | rfl, hjL, Nat.le_refl _, HBT⟩
              · have hgb : bget (bS (mDel M tK) (n + 1) false false 0 0) (M[j].1) = (0, M[j].2) :=
                  bget_in (M := mDel M tK) rfl (HM.out.del tK) rfl (del_in hmem (by rw [HTK.out HKM.out]; exact fst_inj HM.out hjM HKM.out hjK))
                rw [hgb] at kG
                obtain ⟨tj, htj⟩ : ∃ t, t = M[j].1 := ⟨_, rfl⟩
                obtain ⟨mj, hmj⟩ : ∃ t, t = M[j].2 := ⟨_, rfl⟩
                rw [← htj] at cj kG
                rw [← hmj] at HBO cy kG
                have hk1 : ¬ (j : Int) = (K : Int) := by omega
                have HK1 : Hid (¬ (j : Int) = (K : Int)) := hk1
                clear hk1
                clear hgb htj hmj hbn hmem hxc hyc hxs hys h7 hj1 hj2 hjM
                go_wp2_with fail
                refine kG.mono ?_
                rintro e w8 ⟨v8, rfl, o8, b8⟩
                have HB8 : Hid (Below w6.heap.size w6 w8) := HBj.out.trans (b8.mono HBj.out.size)
                have zy := fun nq os => cell_gro (HBO.out w8 b8) nq os
                obtain ⟨za, zc, hz8, -⟩ := o8.reads
                have zcv := fun nq os => conv_string (Go.Sort.grow (w8.drewN nq) os) v8 _ (o8.reads.below (below_gr w8 nq os))
                subst hz8
                clear kG o8 b8 cj cy
                go_wp2_with fail
                have hk2 : decide ((j : Int) = (A : Int) % (L : Int)) = false := by rw [HK2.out]; exact decide_eq_false HK1.out
                have hk3 : ((j : Int) == (A : Int) % (L : Int)) = false := by rw [HK2.out, beq_eq_false_iff_ne]; exact HK1.out
                have hk4 : ((j : Int) != (A : Int) % (L : Int)) = true := by rw [HK2.out, bne_iff_ne]; exact HK1.out
                refine wp_region_quiet_grown (by assumption) (by kernel_rfl) ?_
                repeat (go_big_quiet_step (fail))
                refine wpQuiet_nil ?_
                intro T hw'
                obtain ⟨⟨nq, osq⟩, hw''⟩ := hw'
                have HBT : Hid (Below w6.heap.size w6 T) := by apply hide; rw [hw'']; exact HB8.out.trans ((below_gr w8 nq osq).mono HB8.out.size)
                clear hw'' zy zcv hk2 hk3 hk4
                go_wp2_with fail
                go_roundg (L - (j + 1))
                case measure => exact Nat.lt_of_lt_of_le (Nat.sub_lt_sub_left hjL (Nat.lt_succ_self j)) hjx
                case rel => exact ⟨j + 1, by first | (rw [HW1.out]; rfl) | rfl, hjL, Nat.le_refl _, HBT⟩
            · have hjz : ¬ (j : Int) < (L : Int) := by omega
              go_wp2_with fail
              go_ret
              exact ⟨rfl, HA6.out.ls.bel.trans (HBj.out.mono HA6.out.ls.bel.size)⟩
end Go.Proofs.Ythegdhbmfojdaaa
