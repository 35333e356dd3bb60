/- IntakeParts' walk. -/
import Derived.Test.YtmnlkmgpikilbaaPrA
namespace Go.Proofs.Ytmnlkmgpikilbaa
open Go.RowKit Go.Maps Go.Sort
set_option linter.unusedVariables false

set_option maxRecDepth 20000 in
set_option maxHeartbeats 8000000 in
theorem parts_walk (W : World) (ta : Option Addr) (tn tc : Nat) (ts : List Int) (ht : RdC W ta tn (i64s ts)) (htr : ∀ t ∈ ts, -9223372036854775808 ≤ t ∧ t ≤ 9223372036854775807) (sa : Option Addr) (sn sc : Nat) (bs : List Bool) (hs : RdC W sa sn (bls bs)) (ch : Int) (hch : -9223372036854775808 ≤ ch ∧ ch ≤ 9223372036854775807) (htc : tn ≤ tc) (hsc : sn ≤ sc) :
    Calls Try.prog 5 #[.slice ta tn tc, .slice sa sn sc, .int .i64 ch] W fun e W' => e = .returned (.bool true) ∧ Below W.heap.size W W' := by
  have HT := hide ht
  have HTR := hide htr
  have HSB := hide hs
  have hf1 := ht.fit
  have hf3 := hs.fit
  have HF := hide hf1
  unfold maxLen at hf1 hf3
  have kA0 := fun w => abs_any w ch hch
  obtain ⟨m, hm⟩ : ∃ m, m = ab ch := ⟨_, rfl⟩
  have hm1 : m ≤ 9223372036854775807 := by rw [hm]; exact ab_le ch hch
  rw [← hm] at kA0
  obtain ⟨L, hL⟩ : ∃ L : Nat, L = 1 + m % 50 := ⟨_, rfl⟩
  have hLz : 1 + (m : Int) % 50 = (L : Int) := by omega
  have hL1 : 1 ≤ (L : Int) := by omega
  have hL2 : (L : Int) ≤ 50 := by omega
  clear ht htr hs hm hL
  go_enter Try.func5, Try.ntmps5
  go_upto_region 8 with (first
    | (go_at_call 9
       refine (awake_any W).mono ?_
       rintro e w1 ⟨he1, hb1⟩
       subst he1
       have HB1 := hide hb1
       clear hb1)
    | (go_at_call 17; refine (kA0 _).mono ?_; rintro e w4 ⟨he4, hw4⟩; have hw4 := hw4.symm; subst he4; subst hw4)
    | (go_at_call 10
       refine (St.new w1 (L : Int) ⟨hL1, by omega⟩ 0 (by decide)).mono ?_
       rintro e w2 ⟨x, he2, hs2⟩
       subst he2
       have HS2 := hide hs2
       have HB2 := hide (HB1.out.trans (hs2.bl.mono HB1.out.size))
       clear hs2))
  clear kA0 hLz hm1
  go_upto_region 10 with fail
  go_loopg [10, 11] tn (fun kx v10 v11 wr => ∃ (i : Nat) (Z : List Kp) (o : Kp) (sv : Value), v10 = .int .i64 (i : Int) ∧ v11 = .int .i64 (i : Int) ∧ i ≤ tn ∧ i ≤ 200 ∧ tn - i ≤ kx ∧ Hid (St w1 wr x (L : Int) sv Z o) ∧ Hid (ChZ Z o ((ts.map tmP).take i)) ∧ Hid (ChN Z o))
  case atStart => exact ⟨0, [], _, _, rfl, rfl, Nat.zero_le _, Nat.zero_le _, Nat.le_refl _, HS2.out, ChZ.new, ChN.nil _⟩
  case round =>
    obtain ⟨i, Z, o, sv, rfl, rfl, hi, hi2, hkx, HS, HC, HN⟩ := hrel
    by_cases hlt : i < tn ∧ i < 200
    · have hl1 : (i : Int) < (tn : Int) := by omega
      have hl2 : (i : Int) < 200 := by omega
      have hnl : i < ts.length := by have := HT.out.len; simp [i64s] at this; omega
      obtain ⟨t0, ht0⟩ : ∃ t, t = ts[i] := ⟨_, rfl⟩
      have htm : -9223372036854775808 ≤ t0 ∧ t0 ≤ 9223372036854775807 := HTR.out t0 (by rw [ht0]; exact List.getElem_mem hnl)
      obtain ⟨tb, tq, hta, htc0⟩ := HT.out.at' i (.int .i64 t0) (by unfold i64s; rw [ht0]; simp [hnl])
      subst hta
      have d0 := cell_upB (HB1.out.trans (HS.out.bl.mono HB1.out.size)) htc0
      have kT := abs_any wr t0 htm
      obtain ⟨mt, hmt⟩ : ∃ m, m = ab t0 := ⟨_, rfl⟩
      have hmt1 : mt ≤ 9223372036854775807 := by rw [hmt]; exact ab_le t0 htm
      obtain ⟨q, hq⟩ : ∃ q, q = mt % 1000 := ⟨_, rfl⟩
      have hqz : (mt : Int) % 1000 = (q : Int) := by omega
      have hq1 : q < 1000 := by omega
      have HQ : Hid (tmP t0 = (q : Int)) := by apply hide; rw [hq, hmt]; rfl
      have HT0 := hide ht0
      rw [← hmt] at kT
      have hup : o.up = i := by rw [HC.out.up, List.length_take, List.length_map]; omega
      obtain ⟨n', hn'⟩ : ∃ m, m = i + 1 := ⟨_, rfl⟩
      have hnz : (i : Int) + 1 = (n' : Int) := by omega
      have hnb : (n' : Int) ≤ 9223372036854775807 := by omega
      have HN' := hide hn'
      have HUP := hide hup
      clear hmt hq htc0 ht0 hn' hup
      go_upto_region 14 with (first
        | (go_at_call 17; refine kT.mono ?_; rintro e w4 ⟨he4, hw4⟩; have hw4 := hw4.symm; subst he4; subst hw4)
        | (go_at_call 19
           refine (at_any (q : Int) _).mono ?_
           rintro e w5 ⟨he5, hg5⟩
           subst he5
           have HS5 := hide (HS.out.up hg5.below)
           clear hg5)
        | (go_at_call 18
           refine (HS5.out.good hL1 (by have := HUP.out; omega) n' (by have := HUP.out; have := HN'.out; omega) (q : Int) ⟨by omega, by omega⟩).mono ?_
           rintro e w6 ⟨he6, hs6⟩
           subst he6
           have HS6 := hide hs6
           clear hs6))
      obtain ⟨v6, hs6⟩ := HS6.out
      have htk : (ts.map tmP).take n' = (ts.map tmP).take i ++ [(q : Int)] := by
        rw [HN'.out, List.take_succ_eq_append_getElem (by simpa using hnl), ← HQ.out, HT0.out]
        simp
      have HC6 := hide (HC.out.take v6 (q : Int))
      rw [← htk] at HC6
      clear HS6
      have HS6 := hide hs6
      obtain ⟨o6, ho6⟩ : ∃ o6 : Kp, o6 = { num := o.num, fr := o.fr, up := o.up + 1, v := v6, ts := o.ts ++ [(q : Int)] } := ⟨_, rfl⟩
      have hfu6 : o6.fr < o6.up := by have := HC.out.r; rw [ho6]; simp only; omega
      rw [← ho6] at HS6 HC6
      have HN6 : Hid (ChN Z o6) := hide HN.out.to
      clear htk hs6 ho6
      have hup6 := HC6.out.up
      have hzl6 := HC6.out.zlen
      have hnum6 := HC6.out.n
      have hl6 : ((ts.map tmP).take n').length ≤ 201 := by have := HN'.out; rw [List.length_take]; omega
      clear kT d0
      go_upto_region 15 with fail
      by_cases hsn : i < sn
      · have hsl : i < bs.length := by have := HSB.out.len; simp [bls] at this; omega
        have hsnz : (i : Int) < (sn : Int) := by omega
        obtain ⟨b, hb⟩ : ∃ b, b = bs[i] := ⟨_, rfl⟩
        obtain ⟨sb, so, hsa, hsc0⟩ := HSB.out.at' i (.bool b) (by unfold bls; rw [hb]; simp [hsl])
        subst hsa
        have s0 := cell_upB (HB1.out.trans (HS6.out.bl.mono HB1.out.size)) hsc0
        clear hsc0 hb
        cases b
        · go_wp2_with fail
          go_roundg (tn - n')
          case measure => have := HN'.out; omega
          case rel => exact ⟨n', Z, o6, sv, rfl, rfl, by have := HN'.out; omega, by have := HN'.out; omega, Nat.le_refl _, HS6.out, HC6.out, HN6.out⟩
        · have kS := HS6.out.sealGood ⟨hL1, by omega⟩ hfu6 (by omega) (by omega) (by omega)
          obtain ⟨j1, hj1⟩ : ∃ j, j = o6.num := ⟨_, rfl⟩
          obtain ⟨j2, hj2⟩ : ∃ j, j = o6.fr := ⟨_, rfl⟩
          obtain ⟨j3, hj3⟩ : ∃ j, j = o6.up := ⟨_, rfl⟩
          rw [← hj1, ← hj2, ← hj3] at kS
          have HJ1 := hide hj1
          have HJ2 := hide hj2
          have HJ3 := hide hj3
          clear hj1 hj2 hj3
          go_upto_region 16 with fail
          go_upto_region 17 with (
            go_at_call 20
            refine kS.mono ?_
            rintro e w7 ⟨v7, he7, ⟨sv7, hs7⟩, hc7⟩
            obtain ⟨va7, vn7, vc7, hv7⟩ := hc7.sl
            subst hv7
            subst he7
            have HS7 := hide hs7
            clear hs7 hc7 kS)
          have HS8 := hide (HS7.out.up ((Below.refl _ _).alloc (Nat.le_refl _) (.cells #[.int .i64 j1, .int .u64 (j2 : Int), .int .u64 (j3 : Int), .slice va7 vn7 vc7] 51)))
          have hbW : Below w7.heap.size w7 (w7.alloc (.cells #[.int .i64 j1, .int .u64 (j2 : Int), .int .u64 (j3 : Int), .slice va7 vn7 vc7] 51)) := (Below.refl _ _).alloc (Nat.le_refl _) _
          obtain ⟨w8, hw8⟩ : ∃ w8, w8 = w7.alloc (.cells #[.int .i64 j1, .int .u64 (j2 : Int), .int .u64 (j3 : Int), .slice va7 vn7 vc7] 51) := ⟨_, rfl⟩
          rw [← hw8] at HS8 hbW ⊢
          clear hw8 HS7 hbW s0
          have kS2 := HS8.out.sealNone hL1 rfl
          go_wp2_with (
            go_at_call 20
            refine kS2.mono ?_
            rintro e w9 ⟨he9, hs9⟩
            subst he9
            have HS9 := hide hs9
            clear hs9 kS2)
          have HS10 := hide (HS9.out.up ((Below.refl _ _).alloc (Nat.le_refl _) (.cells #[.int .i64 0, .int .u64 0, .int .u64 0, nl] 51)))
          have HC10 := hide (HC6.out.seal hfu6)
          have HN10 := hide (HN6.out.snoc HC6.out { num := o6.num + 1, fr := o6.up, up := o6.up, v := nl, ts := [] })
          rw [← HJ1.out, ← HJ3.out] at HC10 HN10
          go_roundg (tn - n')
          case measure => have := HN'.out; omega
          case rel => exact ⟨n', _, _, sv7, rfl, rfl, by have := HN'.out; omega, by have := HN'.out; omega, Nat.le_refl _, HS10.out, HC10.out, HN10.out⟩
      · have hsnz : ¬ (i : Int) < (sn : Int) := by omega
        go_wp2_with fail
        go_roundg (tn - n')
        case measure => have := HN'.out; omega
        case rel => exact ⟨n', Z, o6, sv, rfl, rfl, by have := HN'.out; omega, by have := HN'.out; omega, Nat.le_refl _, HS6.out, HC6.out, HN6.out⟩
    · have htl : ts.length = tn := by have := HT.out.len; simpa [i64s] using this
      have hlk : ((ts.map tmP).take i).length = i := by rw [List.length_take, List.length_map]; omega
      have kS := HS.out.sealAny ⟨hL1, by omega⟩ HC.out HN.out (by omega)
      have HLK := hide hlk
      clear hlk
      have hq : ¬ (i : Int) < (tn : Int) ∨ (i : Int) < (tn : Int) ∧ ¬ (i : Int) < 200 := by omega
      rcases hq with hq1 | ⟨hq1, hq2⟩
      all_goals (
        go_upto_region 21 with (
          go_at_call 20
          refine kS.mono ?_
          rintro e w6 ⟨r6, he6, hs6⟩
          subst he6)
        obtain ⟨sv7, Z7, o7, hS7, hz7, hC7, hN7⟩ := hs6.ex
        have hup7 := hC7.up
        have hzl7 := hC7.zlen
        have hl7 := HLK.out
        have kB := hS7.batches ⟨hL1, by omega⟩ (by omega) (fun p hp => by
          obtain ⟨j, hj, rfl⟩ := List.getElem_of_mem hp
          have h1 := (kch_fr Z7 0 o7.fr j hj hC7.c).2
          omega)
        obtain ⟨N, hN⟩ : ∃ N, N = Z7.length := ⟨_, rfl⟩
        have hN1 : N ≤ 200 := by omega
        have HS7 := hide hS7
        have HC7 := hide hC7
        have HN7 := hide hN7
        have HZL := hide hN
        have HE7 : Hid (kch 0 Z7 i) := by apply hide; have := hC7.c; rw [show o7.fr = i by omega] at this; exact this
        clear hS7 hz7 hC7 hN7 hN hup7 hzl7 hl7 hs6 kS
        go_upto_region 22 with (
          go_at_call 13
          refine kB.mono ?_
          rintro e w8 ⟨v8, he8, ho8, hb8⟩
          obtain ⟨ba, bn, bc, hv8⟩ := ho8.sl
          have hbn : bn = N := by rw [HZL.out]; exact ho8.len hv8
          subst hbn
          have HV8 := hide hv8
          rw [hv8] at he8
          subst he8
          have HO8 := hide ho8
          have HB8 : Hid (Below W.heap.size W w8) := by
            have h1 := HB1.out.trans (HS7.out.bl.mono HB1.out.size)
            exact hide (h1.trans (hb8.mono h1.size))
          clear ho8 hb8 hv8 kB)
        clear HS7 HS HB2 HS2
        go_upto_region 25 with fail
        have HM8 := hide (mt_new w8)
        have hbA : Below w8.heap.size w8 (w8.alloc (.cells Try.zeroCells65 65)) := (Below.refl _ _).alloc (Nat.le_refl _) _
        have HBA := hide hbA
        have HBW := hide (HB8.out.trans (hbA.mono HB8.out.size))
        obtain ⟨wA, hwA⟩ : ∃ wA, wA = w8.alloc (.cells Try.zeroCells65 65) := ⟨_, rfl⟩
        obtain ⟨g, hg⟩ : ∃ g, g = w8.heap.size := ⟨_, rfl⟩
        rw [← hwA, ← hg] at HM8
        rw [← hwA] at HBA HBW ⊢
        rw [← hg] at ⊢
        have HG := hide hg
        have hgA : g < wA.heap.size := HM8.out.lt
        have hgW : W.heap.size ≤ g := by rw [hg]; exact HB8.out.size
        clear hwA hg hbA
        go_loopg [18, 19] bn (fun kx v18 v19 wr => ∃ (k lst : Nat), v18 = .int .u64 (lst : Int) ∧ v19 = .int .i64 (k : Int) ∧ k ≤ bn ∧ bn - k ≤ kx ∧ lst ≤ i ∧ Hid (kch 0 (Z7.take k) lst) ∧ Hid (MtZ wr g (pt lst)) ∧ Hid (Fr (fun q => q = g) wA wr))
        case atStart => exact ⟨0, 0, rfl, rfl, Nat.zero_le _, Nat.le_refl _, Nat.zero_le _, rfl, HM8.out, Fr.refl _ _⟩
        case round =>
          obtain ⟨k, lst, rfl, rfl, hk, hkx2, hli, HKL, HM, HFR⟩ := hrel
          by_cases hkN : k < bn
          · have hkz : (k : Int) < (bn : Int) := by omega
            have hkl : k < Z7.length := by have := HZL.out; omega
            obtain ⟨p, hp⟩ : ∃ p, p = Z7[k] := ⟨_, rfl⟩
            have hpm : p ∈ Z7 := by rw [hp]; exact List.getElem_mem hkl
            have hkf := kch_fr Z7 0 i k hkl HE7.out
            rw [← hp] at hkf
            obtain ⟨hkf1, hkf2, hkf3, hkf4, hkf5⟩ := hkf
            have hlf : p.fr = lst := kch_fun _ 0 _ _ hkf1 HKL.out
            obtain ⟨gb, cb, u, e1, e2, e3, e4, e5, k0, k1, k2, k3, hch⟩ := HO8.out.at' k hkl
            rw [← hp] at k0 k1 k2 hch
            have e1 := HV8.out.symm.trans e1
            injection e1 with x1 x2 x3
            subst x1
            subst x3
            rw [← x2] at e2
            clear x2
            have hnum : p.num = (k : Int) + 1 := by rw [hp]; exact HN7.out.z k hkl
            obtain ⟨kn, hkn⟩ : ∃ n, n = k + 1 := ⟨_, rfl⟩
            have hknz : (k : Int) + 1 = (kn : Int) := by omega
            have hknb : (kn : Int) ≤ 1000 := by omega
            rw [hnum, hknz] at k0
            rw [hlf] at k1
            obtain ⟨up, hup⟩ : ∃ up, up = p.up := ⟨_, rfl⟩
            rw [← hup] at k2 hkf2 hkf3 hkf4 hkf5
            rw [hlf] at hkf2 hkf3
            obtain ⟨ss, gv, hA⟩ := hch.a
            obtain ⟨ua, uc, hu⟩ := hA.len
            obtain ⟨K, hK⟩ : ∃ K, K = ss.length := ⟨_, rfl⟩
            have hKb : (K : Int) ≤ 9223372036854775807 := by have := hA.le; omega
            have hpl : p.ts.length ≤ 200 := by omega
            rw [← hK] at hu
            subst hu
            have hgb : gb ≠ g := by have := HG.out; omega
            have m0 := cell_frE HFR.out hgb (cell_upB HBA.out k0)
            have m1 := cell_frE HFR.out hgb (cell_upB HBA.out k1)
            have m2 := cell_frE HFR.out hgb (cell_upB HBA.out k2)
            have m3 := cell_frE HFR.out hgb (cell_upB HBA.out k3)
            have HA := hide hA
            have HKE := hide hK
            have HP := hide hp
            have HLF := hide hlf
            have HUL := hide hkf2
            have HKU := hide hkf4
            have HKN := hide hkn
            have HTS : Hid (∀ t ∈ p.ts, 0 ≤ t ∧ t < 1000) := by
              apply hide
              intro t ht
              have h1 := List.mem_of_mem_take (HC7.out.sub p hpm t ht)
              obtain ⟨t0, _, rfl⟩ := List.mem_map.1 h1
              unfold tmP
              omega
            clear k0 k1 k2 k3 hch hA hK hp hpm hkf1 hkf2 hkf4 hlf hnum hkn hup e4 e5
            go_upto_region 28 with fail
            have hX : BxA (wr.alloc (.cells #[.int .i64 (kn : Int), .int .u64 (lst : Int), .int .u64 (up : Int), .slice ua K uc] 51)) wr.heap.size 51 #[.int .i64 (kn : Int), .int .u64 (lst : Int), .int .u64 (up : Int), .slice ua K uc] := BxA.new _ _ _
            have hbX : Below wr.heap.size wr (wr.alloc (.cells #[.int .i64 (kn : Int), .int .u64 (lst : Int), .int .u64 (up : Int), .slice ua K uc] 51)) := (Below.refl _ _).alloc (Nat.le_refl _) _
            have HM9 := hide (HM.out.up hbX)
            have HF9 := hide (HFR.out.trans (Fr.of_below (F := fun q => q = g) hbX) fun _ _ q => q)
            have hg9 : g < wr.heap.size := HM.out.lt
            obtain ⟨W9, hW9⟩ : ∃ W9, W9 = wr.alloc (.cells #[.int .i64 (kn : Int), .int .u64 (lst : Int), .int .u64 (up : Int), .slice ua K uc] 51) := ⟨_, rfl⟩
            obtain ⟨g9, hg9e⟩ : ∃ g9, g9 = wr.heap.size := ⟨_, rfl⟩
            rw [← hW9] at hX HM9 HF9 ⊢
            rw [← hg9e] at hX hg9 ⊢
            have hg9n : g9 ≠ g := by omega
            have t0 : W9.cell? ⟨g9, 0, none⟩ = some (.int .i64 (kn : Int)) := hX.cell 0 _ rfl
            have t1 : W9.cell? ⟨g9, 1, none⟩ = some (.int .u64 (lst : Int)) := hX.cell 1 _ rfl
            have t2 : W9.cell? ⟨g9, 2, none⟩ = some (.int .u64 (up : Int)) := hX.cell 2 _ rfl
            have t3 : W9.cell? ⟨g9, 3, none⟩ = some (.slice ua K uc) := hX.cell 3 _ rfl
            have HT1 := hide t1
            have HT2 := hide t2
            have HT3 := hide t3
            have hun : ¬ up ≤ lst := by omega
            clear hW9 hg9e hX hbX m0 m1 m2 m3 HM HFR
            go_upto_region 32 with fail
            clear t0 t1 t2 t3
            go_loopg [21] K (fun kx v21 wq => ∃ c : Nat, v21 = .int .i64 (c : Int) ∧ c ≤ K ∧ K - c ≤ kx ∧ Hid (MtZ wq g (mt (spn (L : Int)) lst p.ts (ss.take c) (0, 0) 0)) ∧ Hid (Fr (fun q => q = g) W9 wq))
            case atStart => exact ⟨0, rfl, Nat.zero_le _, Nat.le_refl _, (by rw [List.take_zero, mt_start]; exact HM9.out), Fr.refl _ _⟩
            case round =>
              obtain ⟨c, rfl, hc, hkx3, HMC, HFC⟩ := hrel
              have t3 := cell_frE HFC.out hg9n HT3.out
              by_cases hcK : c < K
              · have hcz : (c : Int) < (K : Int) := by omega
                have hcl : c < ss.length := by have := HKE.out; omega
                obtain ⟨kk, hkk⟩ : ∃ kk, kk = ss[c] := ⟨_, rfl⟩
                obtain ⟨gc, cc, f1, f2, f3, q0, q1, q2⟩ := HA.out.at' c hcl
                rw [← hkk] at q0 q1 q2
                injection f1 with x1 x2 x3
                subst x1
                subst x3
                rw [← HKE.out] at f2
                clear x2
                obtain ⟨tk, htk, hsk⟩ := (HA.out.k.mem kk).1 (by rw [hkk]; exact List.getElem_mem hcl)
                have hsm := spn_small (l := (L : Int)) ⟨hL1, hL2⟩ (HTS.out tk htk)
                rw [hsk] at hsm
                have htk2 := HTS.out tk htk
                have HM1 := hide hsm.1
                have hsm := hsm.2
                obtain ⟨fa, fc, hfv⟩ := HA.out.flen kk
                obtain ⟨F, hF⟩ : ∃ F, F = (ofK (spn (L : Int)) p.ts kk).length := ⟨_, rfl⟩
                rw [← hF] at hfv
                have hFl : F ≤ p.ts.length := by rw [hF]; exact ofK_le _ _ _
                have HGV := hide hfv
                rw [hfv] at q2
                have hgc : gc ≠ g := by intro e; have h1 := cell_lt q0; have h2 := HG.out; rw [← h2] at h1; exact absurd (e ▸ h1 : g < g) (Nat.lt_irrefl g)
                have HFX := HF9.out.trans HFC.out (fun _ _ q => q)
                have m0 := cell_frE HFX hgc (cell_upB HBA.out q0)
                have m1 := cell_frE HFX hgc (cell_upB HBA.out q1)
                have m2 := cell_frE HFX hgc (cell_upB HBA.out q2)
                have HKK := hide hkk
                have hnd : kk ∉ ss.take c := by rw [hkk]; exact nodup_take hcl HA.out.k.nd
                have HND := hide hnd
                have HSP : Hid (∀ f, spn (L : Int) f = kk → 0 ≤ f → f < 1000 → kk.1 ≤ f ∧ f < kk.2) := by
                  apply hide
                  intro f h1 h2 h3
                  have := spn_small (l := (L : Int)) ⟨hL1, hL2⟩ ⟨h2, h3⟩
                  rw [h1] at this
                  exact ⟨this.2.2.1, this.2.2.2.1⟩
                have HFE := hide hF
                clear q0 q1 q2 hkk htk hsk hfv hnd hF HFX
                obtain ⟨s1, hs1⟩ : ∃ s, s = kk.1 := ⟨_, rfl⟩
                obtain ⟨s2, hs2⟩ : ∃ s, s = kk.2 := ⟨_, rfl⟩
                rw [← hs1] at m0 hsm HM1
                rw [← hs2] at m1 hsm
                obtain ⟨hm2, hm3, hm4, hm5⟩ := hsm
                have hmod : ∀ z, z = s1 → z % (L : Int) = 0 := fun z hz => by rw [hz]; exact HM1.out
                have hs1b : s1 ≤ 1000 := by omega
                have hs2e : s1 + (L : Int) = s2 := by omega
                rw [← hs1, ← hs2] at HSP
                have hs2b : s2 ≤ 2000 := by omega
                clear HM1 hm2 hm3 hm4 hs1 hs2 htk2
                go_upto_region 35 with fail
                have hX : BxA (wr.alloc (.cells #[.int .i64 s1, .int .i64 s2, .slice fa F fc] 69)) wr.heap.size 69 #[.int .i64 s1, .int .i64 s2, .slice fa F fc] := BxA.new _ _ _
                have hbX : Below wr.heap.size wr (wr.alloc (.cells #[.int .i64 s1, .int .i64 s2, .slice fa F fc] 69)) := (Below.refl _ _).alloc (Nat.le_refl _) _
                have HMD := hide (HMC.out.up hbX)
                have HFD := hide (HFC.out.trans (Fr.of_below (F := fun q => q = g) hbX) fun _ _ q => q)
                have hgD : g < wr.heap.size := HMC.out.lt
                obtain ⟨WD, hWD⟩ : ∃ WD, WD = wr.alloc (.cells #[.int .i64 s1, .int .i64 s2, .slice fa F fc] 69) := ⟨_, rfl⟩
                obtain ⟨gD, hgDe⟩ : ∃ gD, gD = wr.heap.size := ⟨_, rfl⟩
                rw [← hWD] at hX HMD HFD ⊢
                rw [← hgDe] at hX hgD ⊢
                have hgDn : gD ≠ g := by omega
                have d0 : WD.cell? ⟨gD, 0, none⟩ = some (.int .i64 s1) := hX.cell 0 _ rfl
                have d1 : WD.cell? ⟨gD, 1, none⟩ = some (.int .i64 s2) := hX.cell 1 _ rfl
                have d2 : WD.cell? ⟨gD, 2, none⟩ = some (.slice fa F fc) := hX.cell 2 _ rfl
                have HD0 := hide d0
                have HD1 := hide d1
                have HD2 := hide d2
                have t1 := cell_frE HFD.out hg9n HT1.out
                clear hWD hgDe hX hbX m0 m1 m2 HMC HFC t3
                go_upto_region 39 with fail
                clear d0 d1 d2 t1 hmod
                go_loopg [23, 24] F (fun kx v23 v24 wq => ∃ j a : Nat, v23 = .int .u64 ((lst + a : Nat) : Int) ∧ v24 = .int .i64 (j : Int) ∧ j ≤ F ∧ F - j ≤ kx ∧ a ≤ p.ts.length ∧ Hid ((ofK (spn (L : Int)) p.ts kk).drop j = ofK (spn (L : Int)) (p.ts.drop a) kk) ∧ Hid (MtZ wq g (mt (spn (L : Int)) lst p.ts (ss.take c) kk a)) ∧ Hid (Fr (fun q => q = g) WD wq))
                case atStart => exact ⟨0, 0, rfl, rfl, Nat.zero_le _, Nat.le_refl _, Nat.zero_le _, rfl, (by rw [mt_k0 _ _ _ _ kk (0, 0)]; exact HMD.out), Fr.refl _ _⟩
                case round =>
                  obtain ⟨j, a, rfl, rfl, hj, hkx4, hap, HDR, HMJ, HFJ⟩ := hrel
                  have d2 := cell_frE HFJ.out hgDn HD2.out
                  by_cases hjF : j < F
                  · have hjz : (j : Int) < (F : Int) := by omega
                    have hjl : j < (ofK (spn (L : Int)) p.ts kk).length := by rw [← HFE.out]; exact hjF
                    obtain ⟨f, hf⟩ : ∃ f, f = (ofK (spn (L : Int)) p.ts kk)[j] := ⟨_, rfl⟩
                    obtain ⟨gf, cf, y1, y2, y3, q0⟩ := HA.out.fact kk j hjl
                    have y1 := HGV.out.symm.trans y1
                    injection y1 with x1 x2 x3
                    subst x1
                    subst x3
                    clear x2
                    rw [← HFE.out] at y2
                    rw [← hf] at q0
                    have hfo : (ofK (spn (L : Int)) p.ts kk)[j]? = some f := by rw [hf]; exact List.getElem?_eq_getElem hjl
                    have hfs := of_sp hfo
                    have hf2 := HTS.out f hfs.2
                    have hfk := HSP.out f hfs.1 hf2.1 hf2.2
                    have hgf : gf ≠ g := by intro e; have h1 := cell_lt q0; have h2 := HG.out; rw [← h2] at h1; exact absurd (e ▸ h1 : g < g) (Nat.lt_irrefl g)
                    have m0 := cell_frE ((HF9.out.trans HFD.out fun _ _ q => q).trans HFJ.out fun _ _ q => q) hgf (cell_upB HBA.out q0)
                    have HFO := hide hfo
                    obtain ⟨hf20, hf21⟩ := hf2
                    obtain ⟨hfk0, hfk1⟩ := hfk
                    clear q0 hf hfo hfs
                    go_upto_region 42 with fail
                    clear m0 d2
                    go_loopg [23] (p.ts.length - a) (fun kx v23 wz => ∃ b : Nat, v23 = .int .u64 ((lst + b : Nat) : Int) ∧ b ≤ p.ts.length ∧ p.ts.length - b ≤ kx ∧ Hid ((ofK (spn (L : Int)) p.ts kk).drop j = ofK (spn (L : Int)) (p.ts.drop b) kk) ∧ Hid (MtZ wz g (mt (spn (L : Int)) lst p.ts (ss.take c) kk b)) ∧ Hid (Fr (fun q => q = g) WD wz))
                    case atStart => exact ⟨a, rfl, hap, Nat.le_refl _, HDR.out, HMJ.out, HFJ.out⟩
                    case round =>
                      obtain ⟨b, rfl, hb, hkx5, HDB, HMB, HFB⟩ := hrel
                      have hbl : b < p.ts.length := of_in HDB.out HFO.out
                      obtain ⟨t, ht⟩ : ∃ t, t = p.ts[b] := ⟨_, rfl⟩
                      have hto : p.ts[b]? = some t := by rw [ht]; exact List.getElem?_eq_getElem hbl
                      have hkl : k < Z7.length := by have := HZL.out; omega
                      have hat := HC7.out.all_at k b t hkl (by rw [← HP.out]; exact hto)
                      rw [← HP.out, HLF.out] at hat
                      obtain ⟨y, hy⟩ : ∃ y, y = lst + b := ⟨_, rfl⟩
                      rw [← hy] at hat ⊢
                      have hyu : y < up := by have := HUL.out; omega
                      have hyi : y < i := by omega
                      have hyt : y < ts.length := by omega
                      obtain ⟨t0, ht0⟩ : ∃ t0, t0 = ts[y] := ⟨_, rfl⟩
                      have htt : t = tmP t0 := by
                        rw [List.getElem?_take, if_pos hyi, List.getElem?_map, List.getElem?_eq_getElem hyt, ← ht0] at hat
                        exact (Option.some.inj hat).symm
                      have htm : -9223372036854775808 ≤ t0 ∧ t0 ≤ 9223372036854775807 := HTR.out t0 (by rw [ht0]; exact List.getElem_mem hyt)
                      obtain ⟨tb, tq, hta, htc0⟩ := HT.out.at' y (.int .i64 t0) (by unfold i64s; rw [ht0]; simp [hyt])
                      subst hta
                      have htb : tb ≠ g := by intro e; have h1 := cell_lt htc0; rw [show tb = g from e] at h1; exact absurd h1 (by simp only; omega)
                      have e0 := cell_frE (((HF9.out.trans HFD.out fun _ _ q => q)).trans HFB.out fun _ _ q => q) htb (cell_upB HBW.out htc0)
                      have kA := abs_any wr t0 htm
                      obtain ⟨ma, hma⟩ : ∃ m, m = ab t0 := ⟨_, rfl⟩
                      have hma1 : ma ≤ 9223372036854775807 := by rw [hma]; exact ab_le t0 htm
                      obtain ⟨q, hq⟩ : ∃ q, q = ma % 1000 := ⟨_, rfl⟩
                      have hqz : (ma : Int) % 1000 = (q : Int) := by omega
                      have htq : t = (q : Int) := by rw [htt, hq, hma]; rfl
                      rw [← hma] at kA
                      have t2 := cell_frE (HFD.out.trans HFB.out fun _ _ q => q) hg9n HT2.out
                      have HTO := hide hto
                      have HTQ := hide htq
                      have HY := hide hy
                      have hyz : (y : Int) < (up : Int) := by omega
                      have hyb : (y : Int) ≤ 200 := by omega
                      clear hat htt ht ht0 htc0 hma hq hto htq hy hkl
                      by_cases hqf : (q : Int) = f
                      · skip
                        subst hqf
                        have hsk := of_hit HDB.out HFO.out (by rw [← HTQ.out]; exact HTO.out)
                        have HSK := hide hsk
                        clear hsk
                        have e1 := cell_frE HFB.out hgDn HD0.out
                        have e2 := cell_frE HFB.out hgDn HD1.out
                        have hy200 : y < 200 := by omega
                        have hm0 : mt (spn (L : Int)) lst p.ts (ss.take c) kk b y = 0 := by
                          rw [HY.out]
                          exact mt_zero HTO.out (by rw [HTQ.out]; exact HSK.out.1) HND.out
                        have c0 := HMB.out.cell y hy200
                        rw [hm0] at c0
                        have fz := HMB.out.free y
                        clear hm0
                        obtain ⟨y2, hy2⟩ : ∃ y2, y2 = y + 1 := ⟨_, rfl⟩
                        have hy2z : (y : Int) + 1 = (y2 : Int) := by omega
                        have HY2 := hide hy2
                        clear hy2
                        go_wp2_with (go_at_call 17; refine kA.mono ?_; rintro e w4 ⟨he4, hw4⟩; have hw4 := hw4.symm; subst he4; subst hw4)
                        go_roundg (F - (j + 1))
                        case measure => omega
                        case rel =>
                          refine ⟨j + 1, b + 1, by rw [show lst + (b + 1) = y2 by have := HY.out; have := HY2.out; omega], rfl, hjF, Nat.le_refl _, hbl, HSK.out.2, ?_, HFB.out.trans (Fr.of_grown grown_setCell fun r hr => .inl (by injection hr with hr; exact hr.symm)) fun _ _ q => q⟩
                          have h1 := HMB.out.set y hy200 1
                          have h2 := mt_hit (sp := spn (L : Int)) (fr := lst) (D := ss.take c) (k := kk) HTO.out (by rw [HTQ.out]; exact HSK.out.1)
                          rw [← HY.out] at h2
                          rw [h2] at h1
                          exact h1
                      · have hsk := of_skip HDB.out HFO.out HTO.out (by rw [HTQ.out]; exact hqf)
                        have HSK := hide hsk
                        obtain ⟨y2, hy2⟩ : ∃ y2, y2 = y + 1 := ⟨_, rfl⟩
                        have hy2z : (y : Int) + 1 = (y2 : Int) := by omega
                        have HY2 := hide hy2
                        clear hsk hy2
                        go_wp2_with (go_at_call 17; refine kA.mono ?_; rintro e w4 ⟨he4, hw4⟩; have hw4 := hw4.symm; subst he4; subst hw4)
                        go_roundg (p.ts.length - (b + 1))
                        case measure => omega
                        case rel =>
                          refine ⟨b + 1, by rw [show lst + (b + 1) = y2 by have := HY.out; have := HY2.out; omega], hbl, Nat.le_refl _, HSK.out.2, ?_, HFB.out⟩
                          have := HMB.out
                          rw [mt_skip HTO.out HSK.out.1] at this
                          exact this
                  · have hje : j = F := by omega
                    have hjz : ¬ (j : Int) < (F : Int) := by omega
                    go_wp2_with fail
                    go_roundg (K - (c + 1))
                    case measure => omega
                    case rel =>
                      refine ⟨c + 1, rfl, hcK, Nat.le_refl _, ?_, HFD.out.trans HFJ.out fun _ _ q => q⟩
                      have h1 := HDR.out
                      rw [hje, HFE.out, List.drop_length] at h1
                      have h2 := HMJ.out
                      rw [mt_next h1.symm (0, 0), HKK.out, ← List.take_succ_eq_append_getElem hcl] at h2
                      exact h2
              · have hce : c = K := by omega
                have hcz : ¬ (c : Int) < (K : Int) := by omega
                go_wp2_with fail
                go_roundg (bn - kn)
                case measure => have := HKN.out; omega
                case rel =>
                  refine ⟨kn, up, rfl, rfl, by have := HKN.out; omega, Nat.le_refl _, hkf5, by rw [HKN.out]; exact HKU.out, ?_, HF9.out.trans HFC.out fun _ _ q => q⟩
                  have := HMC.out
                  rw [hce, List.take_of_length_le (by rw [HKE.out]; exact Nat.le_refl _), mt_end (fun t ht => (HA.out.k.mem _).2 ⟨t, ht, rfl⟩), ← HUL.out] at this
                  exact this
          · have hke : k = bn := by omega
            have hkz : ¬ (k : Int) < (bn : Int) := by omega
            have hle : lst = i := by
              have h1 := HKL.out
              rw [List.take_of_length_le (by rw [← HZL.out]; omega)] at h1
              exact kch_fun Z7 0 lst i h1 HE7.out
            subst hle
            go_upto_region 49 with fail
            go_loopg [26] lst (fun kx v26 wq => ∃ j : Nat, v26 = .int .i64 (j : Int) ∧ j ≤ lst ∧ lst - j ≤ kx ∧ Hid (MtZ wq g (pt lst)) ∧ Hid (Fr (fun q => q = g) wA wq))
            case atStart => exact ⟨0, rfl, Nat.zero_le _, Nat.le_refl _, HM.out, HFR.out⟩
            case round =>
              obtain ⟨j, rfl, hj, hjx, HMQ, HFQ⟩ := hrel
              by_cases hjl : j < lst
              · have hjz : (j : Int) < (lst : Int) := by omega
                have hjz2 : (j : Int) < 200 := by omega
                have c0 : wr.cell? ⟨g, j, none⟩ = some (.int .i64 1) := by have := HMQ.out.cell j (by omega); rw [show pt lst j = 1 by unfold pt; rw [if_pos hjl]] at this; exact this
                go_wp2_with fail
                go_roundg (lst - (j + 1))
                case measure => omega
                case rel => exact ⟨j + 1, rfl, hjl, Nat.le_refl _, HMQ.out, HFQ.out⟩
              · have hjz : ¬ (j : Int) < (lst : Int) := by omega
                go_wp2_with fail
                go_ret
                exact ⟨rfl, HBW.out.trans (HFQ.out.below HBW.out.size (fun q e => by subst e; exact hgW))⟩)
end Go.Proofs.Ytmnlkmgpikilbaa
