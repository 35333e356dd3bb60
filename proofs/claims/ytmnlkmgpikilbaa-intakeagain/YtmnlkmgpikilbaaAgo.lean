/- IntakeAgain's walk. -/
import Derived.Test.YtmnlkmgpikilbaaAgn
import Derived.Test.YtmnlkmgpikilbaaAgP
namespace Go.Proofs.Ytmnlkmgpikilbaa
open Go.RowKit Go.Maps Go.Sort
set_option linter.unusedVariables false

set_option maxRecDepth 20000 in
set_option maxHeartbeats 16000000 in
theorem again_walk (W : World) (ta : Option Addr) (tn tc : Nat) (ts : List Int) (ht : RdC W ta tn (i64s ts)) (htr : ∀ t ∈ ts, -9223372036854775808 ≤ t ∧ t ≤ 9223372036854775807) (fm : Int) (hfm : -9223372036854775808 ≤ fm ∧ fm ≤ 9223372036854775807) (sa : Option Addr) (sn sc : Nat) (bs : List Bool) (hs : RdC W sa sn (bls bs)) (htc : tn ≤ tc) (hsc : sn ≤ sc) :
    Calls Try.prog 8 #[.slice ta tn tc, .int .i64 fm, .slice sa sn sc] W fun e W' => e = .returned (.bool true) ∧ Below W.heap.size W W' := by
  have HT := hide ht
  have HTR := hide htr
  have HSB := hide hs
  have hf1 := ht.fit
  have hf3 := hs.fit
  have htl : ts.length = tn := by have := ht.len; simpa [i64s] using this
  unfold maxLen at hf1 hf3
  obtain ⟨n, hn⟩ : ∃ n, n = min tn 60 := ⟨_, rfl⟩
  have hnz : min (tn : Int) 60 = (n : Int) := by omega
  have hnt : n ≤ tn := by omega
  have hn60 : n ≤ 60 := by omega
  have hncap : (n : Int) ≤ (tc : Int) := by omega
  have hn0 : (0 : Int) ≤ (n : Int) := by omega
  have kA0 := fun w => abs_any w fm hfm
  obtain ⟨m, hm⟩ : ∃ m, m = ab fm := ⟨_, rfl⟩
  have hm1 : m ≤ 9223372036854775807 := by rw [hm]; exact ab_le fm hfm
  rw [← hm] at kA0
  obtain ⟨n1, hn1⟩ : ∃ k, k = n + 1 := ⟨_, rfl⟩
  have hn1z : (n : Int) + 1 = (n1 : Int) := by omega
  have hn1p : (0 : Int) < (n1 : Int) := by omega
  have hn1n : ¬ (n1 : Int) = 0 := by omega
  obtain ⟨f, hf⟩ : ∃ f, f = m % n1 := ⟨_, rfl⟩
  have hfn : f ≤ n := by have := Nat.mod_lt m (show 0 < n1 by omega); omega
  have hmz : (m : Int) % (n1 : Int) = (f : Int) := by rw [hf]; exact (Int.natCast_emod m n1).symm
  obtain ⟨f1, hf1e⟩ : ∃ k, k = f + 1 := ⟨_, rfl⟩
  have hf1z : (f : Int) + 1 = (f1 : Int) := by omega
  have hf1b : (f1 : Int) ≤ 100 := by omega
  have HTL := hide htl
  have HF1 := hide hf1e
  have kN := fun w => new_any w 9 (by constructor <;> decide) f (by omega)
  rw [← hf1e] at kN
  clear ht htr hs hm hf hn hn1 hf1e htl
  go_enter Try.func8, Try.ntmps8
  go_upto_region 7 with (first
    | (go_at_call 9
       refine (awake_any W).mono ?_
       rintro e w1 ⟨he1, hb1⟩
       subst he1
       have HB1 := hide hb1
       clear hb1)
    | (go_at_call 17; refine (kA0 _).mono ?_; rintro e w4 ⟨he4, hw4⟩; have hw4 := hw4.symm; subst he4; subst hw4)
    | (go_at_call 10
       refine (St.new w1 9 (by constructor <;> decide) 0 (by decide)).mono ?_
       rintro e w2 ⟨x, he2, hs2⟩
       subst he2
       have HS2 := hide hs2
       clear hs2))
  clear hmz hn1z hn1p hn1n hm1 kA0 hnz
  go_upto_region 12 with (
    go_at_call 10
    refine (kN _).mono ?_
    rintro e w3 ⟨y, he3, hy1, hb3, hz3⟩
    subst he3
    have HSS := hide (S2.of HS2.out hb3 hz3 hy1)
    clear hb3 hz3 hy1 kN)
  clear hf1z HS2
  go_loopg [12, 13] n (fun kx v12 v13 wr => ∃ (i : Nat) (fst : Int) (sx sy : Value) (Zx Zy : List Kp) (ox oy : Kp), v12 = .int .i64 fst ∧ v13 = .int .i64 (i : Int) ∧ i ≤ n ∧ n - i ≤ kx ∧ 0 ≤ fst ∧ fst ≤ 1 ∧ Hid (S2 w1 wr x y 9 sx Zx ox sy Zy oy) ∧ ((i ≤ f ∧ fst = 0 ∧ Zx = [] ∧ Zy = [] ∧ ox.num = 1 ∧ ox.fr = 0 ∧ ox.up = i ∧ ox.ts.length = i ∧ oy.num = 1 ∧ oy.fr = f ∧ oy.up = f ∧ oy.ts = []) ∨ (f < i ∧ Hid (Al fst f Zx Zy ox oy (((ts.map tm).take i).drop f)))))
  case atStart => exact ⟨0, 0, _, _, [], [], _, _, rfl, rfl, Nat.zero_le _, Nat.le_refl _, Int.le_refl _, by decide, HSS.out, .inl ⟨Nat.zero_le _, rfl, rfl, rfl, rfl, rfl, rfl, rfl, rfl, rfl, rfl, rfl⟩⟩
  case round =>
    obtain ⟨i, fst, sx, sy, Zx, Zy, ox, oy, rfl, rfl, hi, hkx, hfs0, hfs1, HS, hphase⟩ := hrel
    by_cases hlt : i < n
    · have hltz : (i : Int) < (n : Int) := by omega
      have hil : i < ts.length := by have := HTL.out; omega
      obtain ⟨t0, ht0⟩ : ∃ t, t = ts[i] := ⟨_, rfl⟩
      have htm : -9223372036854775808 ≤ t0 ∧ t0 ≤ 9223372036854775807 := HTR.out t0 (by rw [ht0]; exact List.getElem_mem hil)
      obtain ⟨tb, tq, hta, htc0⟩ := HT.out.at' i (.int .i64 t0) (by unfold i64s; rw [ht0]; simp [hil])
      subst hta
      obtain ⟨mt, hmt⟩ : ∃ m, m = ab t0 := ⟨_, rfl⟩
      have hmt1 : mt ≤ 9223372036854775807 := by rw [hmt]; exact ab_le t0 htm
      have kT := fun w => abs_any w t0 htm
      rw [← hmt] at kT
      obtain ⟨q, hq⟩ : ∃ q, q = mt % 100 := ⟨_, rfl⟩
      have hqz : (mt : Int) % 100 = (q : Int) := by omega
      have hq1 : q < 100 := by omega
      have HQ : Hid (tm t0 = (q : Int)) := by apply hide; rw [hq, hmt]; rfl
      obtain ⟨i1, hi1⟩ : ∃ m, m = i + 1 := ⟨_, rfl⟩
      have hi1z : (i : Int) + 1 = (i1 : Int) := by omega
      have hi1b : (i1 : Int) ≤ 100 := by omega
      have HI1 := hide hi1
      have HTC := hide htc0
      have HSN : Hid (∀ g, g ≤ i → ((ts.map tm).take i1).drop g = ((ts.map tm).take i).drop g ++ [(q : Int)]) := by
        apply hide
        intro g hg
        have h1 := take_drop_snoc (ts.map tm) g i hg (by rw [List.length_map]; exact hil)
        rw [hi1, h1]
        congr 2
        rw [List.getElem_map, ← ht0, HQ.out]
      clear hmt hq htc0 ht0 hi1

      rcases hphase with ⟨hif, hf0, hz1, hz2, o1, o2, o3, o4, o5, o6, o7, o8⟩ | ⟨hfl, HAL⟩
      · by_cases hif2 : f = i
        · skip
          obtain rfl : i = f := hif2.symm
          have hfi : i ≤ i := Nat.le_refl _
          have hge : (i : Int) ≤ (i : Int) := Int.le_refl _
          have hnlt : ¬ (i : Int) < (i : Int) := Int.lt_irrefl _
          have hdr : ((ts.map tm).take i).drop i = [] := List.drop_of_length_le (by rw [List.length_take]; omega)
          have HZ2 := hide hz2
          have HZ1 := hide hz1
          have HO := hide (And.intro o1 (And.intro o2 (And.intro o3 (And.intro o4 (And.intro o5 (And.intro o6 (And.intro o7 o8)))))))
          subst hf0
          by_cases h0 : i = 0
          · subst h0
            have hi11 : i1 = 1 := HI1.out
            subst hi11
            clear hi1z hi1b
            have hox0 : ox.ts = [] := List.eq_nil_of_length_eq_zero (by omega)
            have hal : Al 0 0 Zx Zy ox oy (((ts.map tm).take 0).drop 0) := by
              rw [hdr, hz1, hz2]
              exact Al.start 0 0 ox oy (by omega) o6 hox0 o8 o3 o7 (by omega) o5
            have HAL := hide hal
            have kS := HS.out.sealNone (by decide) (by omega)
            clear hal hox0 hdr hz1 hz2 o1 o2 o3 o4 o5 o6 o7 o8
            go_upto_region 16 with (
              go_at_call 20
              refine kS.mono ?_
              rintro e w2 ⟨he2, hs2⟩
              subst he2
              have HSW := hide hs2
              clear hs2 kS)
            have hX : BxA (w2.alloc (.cells #[.int .i64 0, .int .u64 0, .int .u64 0, nl] 51)) w2.heap.size 51 #[.int .i64 0, .int .u64 0, .int .u64 0, nl] := BxA.new _ _ _
            have HSV := hide (HSW.out.up ((Below.refl _ _).alloc (Nat.le_refl _) (.cells #[.int .i64 0, .int .u64 0, .int .u64 0, nl] 51)))
            obtain ⟨wA, hwA⟩ : ∃ w, w = w2.alloc (.cells #[.int .i64 0, .int .u64 0, .int .u64 0, nl] 51) := ⟨_, rfl⟩
            rw [← hwA] at hX HSV ⊢
            have xx0 : wA.cell? ⟨w2.heap.size, 0, none⟩ = some (.int .i64 0) := hX.cell 0 _ rfl
            have kR := HSV.out.x.rel_none (by decide) 0 (.inl HZ1.out)
            clear hwA hX HSW
            go_upto_region 19 with (
              go_at_call 22
              refine kR.mono ?_
              rintro e w3 ⟨he3, hw3⟩
              have hw3 := hw3.symm
              subst he3
              subst hw3
              clear kR)
            clear xx0
            as_aux_lemma =>
              -- from HSV (S2 at the world as it is), HAL
              have hupx := HAL.out.upx
              have htkl : (((ts.map tm).take 0).drop 0).length = 0 - 0 := by rw [List.length_drop, List.length_take, List.length_map]; have := HTL.out; omega
              rw [htkl] at hupx
              have hux : ox.up = 0 := by omega
              have huy : oy.up = 0 := by omega
              have HUX := hide hux
              have HUY := hide huy
              clear hupx htkl hux huy
              have d0 : wA.cell? ⟨tb, tq, none⟩ = some (.int .i64 t0) := by simpa using cell_upB (HB1.out.trans (HSV.out.bl.mono HB1.out.size)) HTC.out
              go_upto_region 20 with (go_at_call 17; refine (kT _).mono ?_; rintro e w4 ⟨he4, hw4⟩; have hw4 := hw4.symm; subst he4; subst hw4)
              clear d0 kT
              go_upto_region 21 with (first
                | (go_at_call 19
                   refine (at_any (q : Int) _).mono ?_
                   rintro e w5 ⟨he5, hg5⟩
                   subst he5
                   have HS5 := hide (HSV.out.up hg5.below)
                   clear hg5)
                | (go_at_call 18
                   refine (HS5.out.good (by decide) (by rw [HUX.out]; omega) 1 (by rw [HUX.out]) (q : Int) ⟨by omega, by omega⟩).mono ?_
                   rintro e w6 ⟨he6, hs6⟩
                   subst he6
                   have HS6 := hide hs6
                   clear hs6))
              obtain ⟨vx, hs6⟩ := HS6.out
              clear HS6
              have HS6 := hide hs6
              clear hs6
              go_upto_region 24 with (first
                | (go_at_call 19
                   refine (at_any (q : Int) _).mono ?_
                   rintro e w7 ⟨he7, hg7⟩
                   subst he7
                   have HS7 := hide (HS6.out.up hg7.below)
                   clear hg7)
                | (go_at_call 18
                   refine (HS7.out.swap.good (by decide) (by rw [HUY.out]; omega) 1 (by rw [HUY.out]) (q : Int) ⟨by omega, by omega⟩).mono ?_
                   rintro e w8 ⟨he8, hs8⟩
                   subst he8
                   have HS8 := hide hs8
                   clear hs8))
              obtain ⟨vy, hs8⟩ := HS8.out
              clear HS8
              have HS8 := hide hs8.swap
              clear hs8
              have HA8 := hide (HAL.out.take vx vy (q : Int))
              rw [← HSN.out 0 hfi] at HA8
              obtain ⟨ox8, hox8⟩ : ∃ o : Kp, o = { num := ox.num, fr := ox.fr, up := ox.up + 1, v := vx, ts := ox.ts ++ [(q : Int)] } := ⟨_, rfl⟩
              obtain ⟨oy8, hoy8⟩ : ∃ o : Kp, o = { num := oy.num, fr := oy.fr, up := oy.up + 1, v := vy, ts := oy.ts ++ [(q : Int)] } := ⟨_, rfl⟩
              have hfr8 : ox8.fr < ox8.up := by rw [hox8]; have := HAL.out.rx; simp only; omega
              rw [← hox8, ← hoy8] at HA8
              rw [← hox8, ← hoy8] at HS8
              have hux8 := HA8.out.upx
              have htk8 : (((ts.map tm).take 1).drop 0).length ≤ 60 := by rw [List.length_drop, List.length_take]; have := HI1.out; omega
              have hln := HA8.out.ln
              have hny := HA8.out.ny
              have hnm := HA8.out.num
              have hzl : Zy.length ≤ 100 := by
                have := (kch_len Zy 0 oy8.fr HA8.out.cy).1
                have := HA8.out.ry
                omega
              clear hox8 hoy8
              by_cases hsn : 0 < sn
              · have hsl : 0 < bs.length := by have := HSB.out.len; simp [bls] at this; omega
                have hsnz : (0 : Int) < (sn : Int) := by omega
                obtain ⟨b, hb⟩ : ∃ b, b = bs[0] := ⟨_, rfl⟩
                obtain ⟨sb, so, hsa, hsc0⟩ := HSB.out.at' 0 (.bool b) (by unfold bls; rw [hb]; simp [hsl])
                subst hsa
                have s0 : w8.cell? ⟨sb, so, none⟩ = some (.bool b) := by simpa using cell_upB (HB1.out.trans (HS8.out.bl.mono HB1.out.size)) hsc0
                clear hsc0 hb
                cases b
                · go_wp2_with fail
                  go_roundg (n - 1)
                  case measure => have := HI1.out; omega
                  case rel => exact ⟨1, 0, sx, sy, Zx, Zy, ox8, oy8, rfl, rfl, by have := HI1.out; omega, Nat.le_refl _, by omega, by omega, HS8.out, .inr ⟨by have := HI1.out; omega, HA8.out⟩⟩
                · have hfry : oy8.fr < oy8.up := by have := HA8.out.fr; have := HA8.out.rx; have := HA8.out.ry; have := congrArg List.length HA8.out.ts; omega
                  have kSx := HS8.out.sealGood (by constructor <;> decide) hfr8 (by omega) (by omega) (by omega)
                  obtain ⟨j1, hj1⟩ : ∃ j, j = ox8.num := ⟨_, rfl⟩
                  obtain ⟨j2, hj2⟩ : ∃ j, j = ox8.fr := ⟨_, rfl⟩
                  obtain ⟨j3, hj3⟩ : ∃ j, j = ox8.up := ⟨_, rfl⟩
                  obtain ⟨j4, hj4⟩ : ∃ j, j = oy8.num := ⟨_, rfl⟩
                  have hj2y : oy8.fr = j2 := by rw [hj2]; exact HA8.out.fr.symm
                  have hj3y : oy8.up = j3 := by rw [hj3]; omega
                  have hj41 : j4 + 0 = j1 := by omega
                  have hj4b : 0 ≤ j4 ∧ j4 ≤ 1000 := by omega
                  rw [← hj1, ← hj2, ← hj3] at kSx
                  have HJ := hide (And.intro hj1 (And.intro hj2 (And.intro hj3 (And.intro hj4 (And.intro hj2y hj3y)))))
                  have HFY := hide hfry
                  clear hj1 hj2 hj3 hj4 hj2y hj3y hfry
                  go_upto_region 25 with fail
                  go_upto_region 26 with (
                    go_at_call 20
                    refine kSx.mono ?_
                    rintro e w9 ⟨a9, c9, ss9, hc9, he9, sx9, hs9⟩
                    obtain ⟨K, hK⟩ : ∃ K, K = ss9.length := ⟨_, rfl⟩
                    rw [← hK] at he9
                    subst he9
                    have HC9 := hide hc9
                    have HK := hide hK
                    have HS9 := hide hs9
                    clear hs9 hc9 hK kSx)
                  have hbW : Below w9.heap.size w9 (w9.alloc (.cells #[.int .i64 j1, .int .u64 (j2 : Int), .int .u64 (j3 : Int), .slice a9 K c9] 51)) := (Below.refl _ _).alloc (Nat.le_refl _) _
                  have hX : BxA (w9.alloc (.cells #[.int .i64 j1, .int .u64 (j2 : Int), .int .u64 (j3 : Int), .slice a9 K c9] 51)) w9.heap.size 51 #[.int .i64 j1, .int .u64 (j2 : Int), .int .u64 (j3 : Int), .slice a9 K c9] := BxA.new _ _ _
                  obtain ⟨wA, hwA⟩ : ∃ wA, wA = w9.alloc (.cells #[.int .i64 j1, .int .u64 (j2 : Int), .int .u64 (j3 : Int), .slice a9 K c9] 51) := ⟨_, rfl⟩
                  obtain ⟨gA, hgA⟩ : ∃ g, g = w9.heap.size := ⟨_, rfl⟩
                  rw [← hwA] at hX hbW ⊢
                  rw [← hgA] at hX ⊢
                  have kSy := HS9.out.swap.sealAt hbW gA (Nat.le_of_eq hgA.symm) hX.lt (by constructor <;> decide) HFY.out (by omega) (by omega) (by omega)
                  rw [← HJ.out.2.2.2.1, HJ.out.2.2.2.2.1, HJ.out.2.2.2.2.2] at kSy
                  have HXA := hide hX
                  clear hwA hgA hbW HS9 s0 hX
                  go_upto_region 27 with (
                    go_at_call 20
                    refine kSy.mono ?_
                    rintro e wB ⟨aB, cB, ssB, hcB, heB, hsB, hblk⟩
                    rw [← HA8.out.ts] at hcB
                    rw [Chks.eq hcB HC9.out, ← HK.out] at heB
                    subst heB
                    have HXB : Hid (BxA wB gA 51 #[.int .i64 j1, .int .u64 (j2 : Int), .int .u64 (j3 : Int), .slice a9 K c9]) := hide (by have := HXA.out; unfold BxA at this ⊢; rw [hblk]; exact this)
                    have HSB2 := hide hsB
                    clear hsB hcB kSy hblk)
                  obtain ⟨syB, hsB⟩ := HSB2.out
                  clear HSB2
                  have hbX : Below wB.heap.size wB (wB.alloc (.cells #[.int .i64 j4, .int .u64 (j2 : Int), .int .u64 (j3 : Int), .slice aB K cB] 51)) := (Below.refl _ _).alloc (Nat.le_refl _) _
                  have hY : BxA (wB.alloc (.cells #[.int .i64 j4, .int .u64 (j2 : Int), .int .u64 (j3 : Int), .slice aB K cB] 51)) wB.heap.size 51 #[.int .i64 j4, .int .u64 (j2 : Int), .int .u64 (j3 : Int), .slice aB K cB] := BxA.new _ _ _
                  have HSC := hide (hsB.swap.up hbX)
                  have hXC := bx_up HXB.out hbX
                  obtain ⟨wC, hwC⟩ : ∃ w, w = wB.alloc (.cells #[.int .i64 j4, .int .u64 (j2 : Int), .int .u64 (j3 : Int), .slice aB K cB] 51) := ⟨_, rfl⟩
                  obtain ⟨gC, hgC⟩ : ∃ g, g = wB.heap.size := ⟨_, rfl⟩
                  rw [← hwC] at hY HSC hXC ⊢
                  rw [← hgC] at hY ⊢
                  clear hwC hgC hbX hsB HXB
                  have y0 : wC.cell? ⟨gC, 0, none⟩ = some (.int .i64 j4) := hY.cell 0 _ rfl
                  have y1 : wC.cell? ⟨gC, 1, none⟩ = some (.int .u64 (j2 : Int)) := hY.cell 1 _ rfl
                  have y2 : wC.cell? ⟨gC, 2, none⟩ = some (.int .u64 (j3 : Int)) := hY.cell 2 _ rfl
                  have y3 : wC.cell? ⟨gC, 3, none⟩ = some (.slice aB K cB) := hY.cell 3 _ rfl
                  have x0 : wC.cell? ⟨gA, 0, none⟩ = some (.int .i64 j1) := hXC.cell 0 _ rfl
                  have x1 : wC.cell? ⟨gA, 1, none⟩ = some (.int .u64 (j2 : Int)) := hXC.cell 1 _ rfl
                  have x2 : wC.cell? ⟨gA, 2, none⟩ = some (.int .u64 (j3 : Int)) := hXC.cell 2 _ rfl
                  have x3 : wC.cell? ⟨gA, 3, none⟩ = some (.slice a9 K c9) := hXC.cell 3 _ rfl
                  have HA9 := hide (HA8.out.seal hfr8)
                  clear hY hXC
                  go_wp2_with fail
                  go_roundg (n - 1)
                  case measure => have := HI1.out; omega
                  case rel =>
                    refine ⟨1, 0, sx9, syB, Zx ++ [ox8], Zy ++ [oy8], { num := ox8.num + 1, fr := ox8.up, up := ox8.up, v := nl, ts := [] }, { num := oy8.num + 1, fr := oy8.up, up := oy8.up, v := nl, ts := [] }, rfl, rfl, by have := HI1.out; omega, Nat.le_refl _, by omega, by omega, ?_, .inr ⟨by have := HI1.out; omega, HA9.out⟩⟩
                    rw [← HJ.out.1, ← HJ.out.2.2.1, ← HJ.out.2.2.2.1, HJ.out.2.2.2.2.2]
                    exact HSC.out
              · have hsnz : ¬ (0 : Int) < (sn : Int) := by omega
                go_wp2_with fail
                go_roundg (n - 1)
                case measure => have := HI1.out; omega
                case rel => exact ⟨1, 0, sx, sy, Zx, Zy, ox8, oy8, rfl, rfl, by have := HI1.out; omega, Nat.le_refl _, by omega, by omega, HS8.out, .inr ⟨by have := HI1.out; omega, HA8.out⟩⟩
          · have hi0 : (0 : Int) < (i : Int) := by omega
            have kS := HS.out.sealGood (by constructor <;> decide) (by omega) (by rw [hz1]; exact Nat.zero_le _) (by omega) (by omega)
            rw [o1, hz1] at kS
            obtain ⟨j2, hj2⟩ : ∃ j, j = ox.fr := ⟨_, rfl⟩
            obtain ⟨j3, hj3⟩ : ∃ j, j = ox.up := ⟨_, rfl⟩
            rw [← hj2, ← hj3] at kS
            have HJ3 := hide hj3
            clear hj2 hj3 hz1 hz2 h0 o1 o2 o3 o4 o5 o6 o7 o8
            go_upto_region 16 with (
              go_at_call 20
              refine kS.mono ?_
              rintro e w2 ⟨a2, c2, ss2, -, he2, hs2⟩
              obtain ⟨K2', hK2⟩ : ∃ K, K = ss2.length := ⟨_, rfl⟩
              rw [← hK2] at he2
              clear hK2
              subst he2
              have HSW := hide hs2
              clear hs2 kS)
            obtain ⟨sx2, hs2⟩ := HSW.out
            clear HSW
            obtain ⟨ox2, hox2⟩ : ∃ o : Kp, o = { num := 1 + 1, fr := j3, up := j3, v := nl, ts := [] } := ⟨_, rfl⟩
            rw [← hox2] at hs2
            have hs2' : S2 w1 w2 x y 9 sx2 (ox :: []) ox2 sy Zy oy := hs2
            have hX : BxA (w2.alloc (.cells #[.int .i64 1, .int .u64 (j2 : Int), .int .u64 (j3 : Int), .slice a2 K2' c2] 51)) w2.heap.size 51 #[.int .i64 1, .int .u64 (j2 : Int), .int .u64 (j3 : Int), .slice a2 K2' c2] := BxA.new _ _ _
            have hbW : Below w2.heap.size w2 (w2.alloc (.cells #[.int .i64 1, .int .u64 (j2 : Int), .int .u64 (j3 : Int), .slice a2 K2' c2] 51)) := (Below.refl _ _).alloc (Nat.le_refl _) _
            obtain ⟨wA, hwA⟩ : ∃ w, w = w2.alloc (.cells #[.int .i64 1, .int .u64 (j2 : Int), .int .u64 (j3 : Int), .slice a2 K2' c2] 51) := ⟨_, rfl⟩
            obtain ⟨gA, hgA⟩ : ∃ g, g = w2.heap.size := ⟨_, rfl⟩
            rw [← hwA] at hX hbW ⊢
            rw [← hgA] at hX ⊢
            have xx0 : wA.cell? ⟨gA, 0, none⟩ = some (.int .i64 1) := hX.cell 0 _ rfl
            have kR := hs2'.relAt hbW gA (Nat.le_of_eq hgA.symm) hX.lt (by decide) 1 HO.out.1.symm (by rw [HO.out.1, hox2]; show (1 : Int) < 1 + 1; decide)
            have HXA := hide hX
            obtain ⟨Z2, hZ2⟩ : ∃ Z : List Kp, Z = [] := ⟨_, rfl⟩
            rw [← hZ2] at kR
            have hal : Al 1 i Z2 Zy ox2 oy (((ts.map tm).take i).drop i) := by
              rw [hdr, hZ2, HZ2.out, hox2]
              exact Al.start 1 i _ oy (by rw [HJ3.out]; exact HO.out.2.2.1) HO.out.2.2.2.2.2.1 rfl HO.out.2.2.2.2.2.2.2 (by rw [HJ3.out]; exact HO.out.2.2.1) HO.out.2.2.2.2.2.2.1 rfl HO.out.2.2.2.2.1
            have HAL := hide hal
            clear hwA hgA hX hs2 hs2' hbW hal hdr hZ2 hox2
            go_upto_region 18 with (
              go_at_call 22
              refine kR.mono ?_
              rintro e w3 ⟨he3, hs3, hblk⟩
              subst he3
              have HXB : Hid (w3.cell? ⟨gA, 0, none⟩ = some (.int .i64 1)) := hide (by have := HXA.out; have h9 : BxA w3 gA 51 #[.int .i64 1, .int .u64 (j2 : Int), .int .u64 (j3 : Int), .slice a2 K2' c2] := (by unfold BxA at this ⊢; rw [hblk]; exact this); exact h9.cell 0 _ rfl)
              have HSW := hide hs3
              clear hs3 kR hblk)
            obtain ⟨sx3, hs3⟩ := HSW.out
            have HSV := hide hs3
            have xx1 := HXB.out
            clear HSW HXB HXA xx0 hs3
            go_upto_region 19 with fail
            clear xx1
            as_aux_lemma =>
              -- from HSV (S2 at the world as it is), HAL
              have hupx := HAL.out.upx
              have htkl : (((ts.map tm).take i).drop i).length = i - i := by rw [List.length_drop, List.length_take, List.length_map]; have := HTL.out; omega
              rw [htkl] at hupx
              have hux : ox2.up = i := by omega
              have huy : oy.up = i := by omega
              have HUX := hide hux
              have HUY := hide huy
              clear hupx htkl hux huy
              have d0 := cell_upB (HB1.out.trans (HSV.out.bl.mono HB1.out.size)) HTC.out
              go_upto_region 20 with (go_at_call 17; refine (kT _).mono ?_; rintro e w4 ⟨he4, hw4⟩; have hw4 := hw4.symm; subst he4; subst hw4)
              clear d0 kT
              go_upto_region 21 with (first
                | (go_at_call 19
                   refine (at_any (q : Int) _).mono ?_
                   rintro e w5 ⟨he5, hg5⟩
                   subst he5
                   have HS5 := hide (HSV.out.up hg5.below)
                   clear hg5)
                | (go_at_call 18
                   refine (HS5.out.good (by decide) (by rw [HUX.out]; omega) i1 (by rw [HUX.out, HI1.out]) (q : Int) ⟨by omega, by omega⟩).mono ?_
                   rintro e w6 ⟨he6, hs6⟩
                   subst he6
                   have HS6 := hide hs6
                   clear hs6))
              obtain ⟨vx, hs6⟩ := HS6.out
              clear HS6
              have HS6 := hide hs6
              clear hs6
              go_upto_region 24 with (first
                | (go_at_call 19
                   refine (at_any (q : Int) _).mono ?_
                   rintro e w7 ⟨he7, hg7⟩
                   subst he7
                   have HS7 := hide (HS6.out.up hg7.below)
                   clear hg7)
                | (go_at_call 18
                   refine (HS7.out.swap.good (by decide) (by rw [HUY.out]; omega) i1 (by rw [HUY.out, HI1.out]) (q : Int) ⟨by omega, by omega⟩).mono ?_
                   rintro e w8 ⟨he8, hs8⟩
                   subst he8
                   have HS8 := hide hs8
                   clear hs8))
              obtain ⟨vy, hs8⟩ := HS8.out
              clear HS8
              have HS8 := hide hs8.swap
              clear hs8
              have HA8 := hide (HAL.out.take vx vy (q : Int))
              rw [← HSN.out i hfi] at HA8
              obtain ⟨ox8, hox8⟩ : ∃ o : Kp, o = { num := ox2.num, fr := ox2.fr, up := ox2.up + 1, v := vx, ts := ox2.ts ++ [(q : Int)] } := ⟨_, rfl⟩
              obtain ⟨oy8, hoy8⟩ : ∃ o : Kp, o = { num := oy.num, fr := oy.fr, up := oy.up + 1, v := vy, ts := oy.ts ++ [(q : Int)] } := ⟨_, rfl⟩
              have hfr8 : ox8.fr < ox8.up := by rw [hox8]; have := HAL.out.rx; simp only; omega
              rw [← hox8, ← hoy8] at HA8
              rw [← hox8, ← hoy8] at HS8
              have hux8 := HA8.out.upx
              have htk8 : (((ts.map tm).take i1).drop i).length ≤ 60 := by rw [List.length_drop, List.length_take]; have := HI1.out; omega
              have hln := HA8.out.ln
              have hny := HA8.out.ny
              have hnm := HA8.out.num
              have hzl : Zy.length ≤ 100 := by
                have := (kch_len Zy i oy8.fr HA8.out.cy).1
                have := HA8.out.ry
                omega
              clear hox8 hoy8
              by_cases hsn : i < sn
              · have hsl : i < bs.length := by have := HSB.out.len; simp [bls] at this; omega
                have hsnz : (i : Int) < (sn : Int) := by omega
                obtain ⟨b, hb⟩ : ∃ b, b = bs[i] := ⟨_, rfl⟩
                obtain ⟨sb, so, hsa, hsc0⟩ := HSB.out.at' i (.bool b) (by unfold bls; rw [hb]; simp [hsl])
                subst hsa
                have s0 := cell_upB (HB1.out.trans (HS8.out.bl.mono HB1.out.size)) hsc0
                clear hsc0 hb
                cases b
                · go_wp2_with fail
                  go_roundg (n - i1)
                  case measure => have := HI1.out; omega
                  case rel => exact ⟨i1, 1, sx3, sy, Z2, Zy, ox8, oy8, rfl, rfl, by have := HI1.out; omega, Nat.le_refl _, by omega, by omega, HS8.out, .inr ⟨by have := HI1.out; omega, HA8.out⟩⟩
                · have hfry : oy8.fr < oy8.up := by have := HA8.out.fr; have := HA8.out.rx; have := HA8.out.ry; have := congrArg List.length HA8.out.ts; omega
                  have kSx := HS8.out.sealGood (by constructor <;> decide) hfr8 (by omega) (by omega) (by omega)
                  obtain ⟨j1, hj1⟩ : ∃ j, j = ox8.num := ⟨_, rfl⟩
                  obtain ⟨j2, hj2⟩ : ∃ j, j = ox8.fr := ⟨_, rfl⟩
                  obtain ⟨j3, hj3⟩ : ∃ j, j = ox8.up := ⟨_, rfl⟩
                  obtain ⟨j4, hj4⟩ : ∃ j, j = oy8.num := ⟨_, rfl⟩
                  have hj2y : oy8.fr = j2 := by rw [hj2]; exact HA8.out.fr.symm
                  have hj3y : oy8.up = j3 := by rw [hj3]; omega
                  have hj41 : j4 + 1 = j1 := by omega
                  have hj4b : 0 ≤ j4 ∧ j4 ≤ 1000 := by omega
                  rw [← hj1, ← hj2, ← hj3] at kSx
                  have HJ := hide (And.intro hj1 (And.intro hj2 (And.intro hj3 (And.intro hj4 (And.intro hj2y hj3y)))))
                  have HFY := hide hfry
                  clear hj1 hj2 hj3 hj4 hj2y hj3y hfry
                  go_upto_region 25 with fail
                  go_upto_region 26 with (
                    go_at_call 20
                    refine kSx.mono ?_
                    rintro e w9 ⟨a9, c9, ss9, hc9, he9, sx9, hs9⟩
                    obtain ⟨K, hK⟩ : ∃ K, K = ss9.length := ⟨_, rfl⟩
                    rw [← hK] at he9
                    subst he9
                    have HC9 := hide hc9
                    have HK := hide hK
                    have HS9 := hide hs9
                    clear hs9 hc9 hK kSx)
                  have hbW : Below w9.heap.size w9 (w9.alloc (.cells #[.int .i64 j1, .int .u64 (j2 : Int), .int .u64 (j3 : Int), .slice a9 K c9] 51)) := (Below.refl _ _).alloc (Nat.le_refl _) _
                  have hX : BxA (w9.alloc (.cells #[.int .i64 j1, .int .u64 (j2 : Int), .int .u64 (j3 : Int), .slice a9 K c9] 51)) w9.heap.size 51 #[.int .i64 j1, .int .u64 (j2 : Int), .int .u64 (j3 : Int), .slice a9 K c9] := BxA.new _ _ _
                  obtain ⟨wA, hwA⟩ : ∃ wA, wA = w9.alloc (.cells #[.int .i64 j1, .int .u64 (j2 : Int), .int .u64 (j3 : Int), .slice a9 K c9] 51) := ⟨_, rfl⟩
                  obtain ⟨gA, hgA⟩ : ∃ g, g = w9.heap.size := ⟨_, rfl⟩
                  rw [← hwA] at hX hbW ⊢
                  rw [← hgA] at hX ⊢
                  have kSy := HS9.out.swap.sealAt hbW gA (Nat.le_of_eq hgA.symm) hX.lt (by constructor <;> decide) HFY.out (by omega) (by omega) (by omega)
                  rw [← HJ.out.2.2.2.1, HJ.out.2.2.2.2.1, HJ.out.2.2.2.2.2] at kSy
                  have HXA := hide hX
                  clear hwA hgA hbW HS9 s0 hX
                  go_upto_region 27 with (
                    go_at_call 20
                    refine kSy.mono ?_
                    rintro e wB ⟨aB, cB, ssB, hcB, heB, hsB, hblk⟩
                    rw [← HA8.out.ts] at hcB
                    rw [Chks.eq hcB HC9.out, ← HK.out] at heB
                    subst heB
                    have HXB : Hid (BxA wB gA 51 #[.int .i64 j1, .int .u64 (j2 : Int), .int .u64 (j3 : Int), .slice a9 K c9]) := hide (by have := HXA.out; unfold BxA at this ⊢; rw [hblk]; exact this)
                    have HSB2 := hide hsB
                    clear hsB hcB kSy hblk)
                  obtain ⟨syB, hsB⟩ := HSB2.out
                  clear HSB2
                  have hbX : Below wB.heap.size wB (wB.alloc (.cells #[.int .i64 j4, .int .u64 (j2 : Int), .int .u64 (j3 : Int), .slice aB K cB] 51)) := (Below.refl _ _).alloc (Nat.le_refl _) _
                  have hY : BxA (wB.alloc (.cells #[.int .i64 j4, .int .u64 (j2 : Int), .int .u64 (j3 : Int), .slice aB K cB] 51)) wB.heap.size 51 #[.int .i64 j4, .int .u64 (j2 : Int), .int .u64 (j3 : Int), .slice aB K cB] := BxA.new _ _ _
                  have HSC := hide (hsB.swap.up hbX)
                  have hXC := bx_up HXB.out hbX
                  obtain ⟨wC, hwC⟩ : ∃ w, w = wB.alloc (.cells #[.int .i64 j4, .int .u64 (j2 : Int), .int .u64 (j3 : Int), .slice aB K cB] 51) := ⟨_, rfl⟩
                  obtain ⟨gC, hgC⟩ : ∃ g, g = wB.heap.size := ⟨_, rfl⟩
                  rw [← hwC] at hY HSC hXC ⊢
                  rw [← hgC] at hY ⊢
                  clear hwC hgC hbX hsB HXB
                  have y0 : wC.cell? ⟨gC, 0, none⟩ = some (.int .i64 j4) := hY.cell 0 _ rfl
                  have y1 : wC.cell? ⟨gC, 1, none⟩ = some (.int .u64 (j2 : Int)) := hY.cell 1 _ rfl
                  have y2 : wC.cell? ⟨gC, 2, none⟩ = some (.int .u64 (j3 : Int)) := hY.cell 2 _ rfl
                  have y3 : wC.cell? ⟨gC, 3, none⟩ = some (.slice aB K cB) := hY.cell 3 _ rfl
                  have x0 : wC.cell? ⟨gA, 0, none⟩ = some (.int .i64 j1) := hXC.cell 0 _ rfl
                  have x1 : wC.cell? ⟨gA, 1, none⟩ = some (.int .u64 (j2 : Int)) := hXC.cell 1 _ rfl
                  have x2 : wC.cell? ⟨gA, 2, none⟩ = some (.int .u64 (j3 : Int)) := hXC.cell 2 _ rfl
                  have x3 : wC.cell? ⟨gA, 3, none⟩ = some (.slice a9 K c9) := hXC.cell 3 _ rfl
                  have HA9 := hide (HA8.out.seal hfr8)
                  clear hY hXC
                  go_wp2_with fail
                  go_roundg (n - i1)
                  case measure => have := HI1.out; omega
                  case rel =>
                    refine ⟨i1, 1, sx9, syB, Z2 ++ [ox8], Zy ++ [oy8], { num := ox8.num + 1, fr := ox8.up, up := ox8.up, v := nl, ts := [] }, { num := oy8.num + 1, fr := oy8.up, up := oy8.up, v := nl, ts := [] }, rfl, rfl, by have := HI1.out; omega, Nat.le_refl _, by omega, by omega, ?_, .inr ⟨by have := HI1.out; omega, HA9.out⟩⟩
                    rw [← HJ.out.1, ← HJ.out.2.2.1, ← HJ.out.2.2.2.1, HJ.out.2.2.2.2.2]
                    exact HSC.out
              · have hsnz : ¬ (i : Int) < (sn : Int) := by omega
                go_wp2_with fail
                go_roundg (n - i1)
                case measure => have := HI1.out; omega
                case rel => exact ⟨i1, 1, sx3, sy, Z2, Zy, ox8, oy8, rfl, rfl, by have := HI1.out; omega, Nat.le_refl _, by omega, by omega, HS8.out, .inr ⟨by have := HI1.out; omega, HA8.out⟩⟩
        · skip
          as_aux_lemma =>
            have hlf : i < f := by omega
            have hnf : ¬ (i : Int) = (f : Int) := by omega
            have hge : ¬ (f : Int) ≤ (i : Int) := by omega
            have hltf : (i : Int) < (f : Int) := by omega
            have HO := hide (And.intro o1 (And.intro o2 (And.intro o3 (And.intro o4 (And.intro o5 (And.intro o6 (And.intro o7 o8)))))))
            have HZ1 := hide (And.intro hz1 hz2)
            subst hf0
            have d0 := cell_upB (HB1.out.trans (HS.out.bl.mono HB1.out.size)) HTC.out
            have hf60 : f ≤ 60 := by omega
            clear o1 o2 o3 o4 o5 o6 o7 o8 hz1 hz2 hif hif2
            go_upto_region 20 with (go_at_call 17; refine (kT _).mono ?_; rintro e w4 ⟨he4, hw4⟩; have hw4 := hw4.symm; subst he4; subst hw4)
            clear d0 kT
            go_upto_region 21 with (first
              | (go_at_call 19
                 refine (at_any (q : Int) _).mono ?_
                 rintro e w5 ⟨he5, hg5⟩
                 subst he5
                 have HS5 := hide (HS.out.up hg5.below)
                 clear hg5)
              | (go_at_call 18
                 refine (HS5.out.good (by decide) (by rw [HO.out.2.2.1]; omega) i1 (by rw [HO.out.2.2.1, HI1.out]) (q : Int) ⟨by omega, by omega⟩).mono ?_
                 rintro e w6 ⟨he6, hs6⟩
                 subst he6
                 have HS6 := hide hs6
                 clear hs6))
            obtain ⟨vx, hs6⟩ := HS6.out
            clear HS6
            have HS6 := hide hs6
            clear hs6
            go_wp2_with (first
              | (go_at_call 19
                 refine (at_any (q : Int) _).mono ?_
                 rintro e w7 ⟨he7, hg7⟩
                 subst he7
                 have HS7 := hide (HS6.out.up hg7.below)
                 clear hg7)
              | (go_at_call 18
                 refine (HS7.out.swap.old (by decide) (by rw [HO.out.2.2.2.2.2.2.1]; omega) i1 (by rw [HO.out.2.2.2.2.2.2.1, HI1.out]; omega) (q : Int)).mono ?_
                 rintro e w8 ⟨he8, hs8⟩
                 subst he8
                 have HS8 := hide hs8.swap
                 clear hs8))
            go_roundg (n - i1)
            case measure => have := HI1.out; omega
            case rel =>
              refine ⟨i1, 0, sx, sy, Zx, Zy, _, oy, rfl, rfl, by have := HI1.out; omega, Nat.le_refl _, by decide, by decide, HS8.out, .inl ⟨by have := HI1.out; omega, rfl, HZ1.out.1, HZ1.out.2, HO.out.1, HO.out.2.1, ?_, ?_, HO.out.2.2.2.2.1, HO.out.2.2.2.2.2.1, HO.out.2.2.2.2.2.2.1, HO.out.2.2.2.2.2.2.2⟩⟩
              · rw [HI1.out, HO.out.2.2.1]
              · rw [List.length_append, HO.out.2.2.2.1, HI1.out]; rfl
      · have hfi : f ≤ i := by omega
        have hnf : ¬ (i : Int) = (f : Int) := by omega
        have hge : (f : Int) ≤ (i : Int) := by omega
        have hnlt : ¬ (i : Int) < (f : Int) := by omega
        have HSV := HS
        as_aux_lemma =>
          -- from HSV (S2 at the world as it is), HAL
          have hupx := HAL.out.upx
          have htkl : (((ts.map tm).take i).drop f).length = i - f := by rw [List.length_drop, List.length_take, List.length_map]; have := HTL.out; omega
          rw [htkl] at hupx
          have hux : ox.up = i := by omega
          have huy : oy.up = i := by omega
          have HUX := hide hux
          have HUY := hide huy
          clear hupx htkl hux huy
          have d0 := cell_upB (HB1.out.trans (HSV.out.bl.mono HB1.out.size)) HTC.out
          go_upto_region 20 with (go_at_call 17; refine (kT _).mono ?_; rintro e w4 ⟨he4, hw4⟩; have hw4 := hw4.symm; subst he4; subst hw4)
          clear d0 kT
          go_upto_region 21 with (first
            | (go_at_call 19
               refine (at_any (q : Int) _).mono ?_
               rintro e w5 ⟨he5, hg5⟩
               subst he5
               have HS5 := hide (HSV.out.up hg5.below)
               clear hg5)
            | (go_at_call 18
               refine (HS5.out.good (by decide) (by rw [HUX.out]; omega) i1 (by rw [HUX.out, HI1.out]) (q : Int) ⟨by omega, by omega⟩).mono ?_
               rintro e w6 ⟨he6, hs6⟩
               subst he6
               have HS6 := hide hs6
               clear hs6))
          obtain ⟨vx, hs6⟩ := HS6.out
          clear HS6
          have HS6 := hide hs6
          clear hs6
          go_upto_region 24 with (first
            | (go_at_call 19
               refine (at_any (q : Int) _).mono ?_
               rintro e w7 ⟨he7, hg7⟩
               subst he7
               have HS7 := hide (HS6.out.up hg7.below)
               clear hg7)
            | (go_at_call 18
               refine (HS7.out.swap.good (by decide) (by rw [HUY.out]; omega) i1 (by rw [HUY.out, HI1.out]) (q : Int) ⟨by omega, by omega⟩).mono ?_
               rintro e w8 ⟨he8, hs8⟩
               subst he8
               have HS8 := hide hs8
               clear hs8))
          obtain ⟨vy, hs8⟩ := HS8.out
          clear HS8
          have HS8 := hide hs8.swap
          clear hs8
          have HA8 := hide (HAL.out.take vx vy (q : Int))
          rw [← HSN.out f hfi] at HA8
          obtain ⟨ox8, hox8⟩ : ∃ o : Kp, o = { num := ox.num, fr := ox.fr, up := ox.up + 1, v := vx, ts := ox.ts ++ [(q : Int)] } := ⟨_, rfl⟩
          obtain ⟨oy8, hoy8⟩ : ∃ o : Kp, o = { num := oy.num, fr := oy.fr, up := oy.up + 1, v := vy, ts := oy.ts ++ [(q : Int)] } := ⟨_, rfl⟩
          have hfr8 : ox8.fr < ox8.up := by rw [hox8]; have := HAL.out.rx; simp only; omega
          rw [← hox8, ← hoy8] at HA8
          rw [← hox8, ← hoy8] at HS8
          have hux8 := HA8.out.upx
          have htk8 : (((ts.map tm).take i1).drop f).length ≤ 60 := by rw [List.length_drop, List.length_take]; have := HI1.out; omega
          have hln := HA8.out.ln
          have hny := HA8.out.ny
          have hnm := HA8.out.num
          have hzl : Zy.length ≤ 100 := by
            have := (kch_len Zy f oy8.fr HA8.out.cy).1
            have := HA8.out.ry
            omega
          clear hox8 hoy8
          by_cases hsn : i < sn
          · have hsl : i < bs.length := by have := HSB.out.len; simp [bls] at this; omega
            have hsnz : (i : Int) < (sn : Int) := by omega
            obtain ⟨b, hb⟩ : ∃ b, b = bs[i] := ⟨_, rfl⟩
            obtain ⟨sb, so, hsa, hsc0⟩ := HSB.out.at' i (.bool b) (by unfold bls; rw [hb]; simp [hsl])
            subst hsa
            have s0 := cell_upB (HB1.out.trans (HS8.out.bl.mono HB1.out.size)) hsc0
            clear hsc0 hb
            cases b
            · go_wp2_with fail
              go_roundg (n - i1)
              case measure => have := HI1.out; omega
              case rel => exact ⟨i1, fst, sx, sy, Zx, Zy, ox8, oy8, rfl, rfl, by have := HI1.out; omega, Nat.le_refl _, by omega, by omega, HS8.out, .inr ⟨by have := HI1.out; omega, HA8.out⟩⟩
            · have hfry : oy8.fr < oy8.up := by have := HA8.out.fr; have := HA8.out.rx; have := HA8.out.ry; have := congrArg List.length HA8.out.ts; omega
              have kSx := HS8.out.sealGood (by constructor <;> decide) hfr8 (by omega) (by omega) (by omega)
              obtain ⟨j1, hj1⟩ : ∃ j, j = ox8.num := ⟨_, rfl⟩
              obtain ⟨j2, hj2⟩ : ∃ j, j = ox8.fr := ⟨_, rfl⟩
              obtain ⟨j3, hj3⟩ : ∃ j, j = ox8.up := ⟨_, rfl⟩
              obtain ⟨j4, hj4⟩ : ∃ j, j = oy8.num := ⟨_, rfl⟩
              have hj2y : oy8.fr = j2 := by rw [hj2]; exact HA8.out.fr.symm
              have hj3y : oy8.up = j3 := by rw [hj3]; omega
              have hj41 : j4 + fst = j1 := by omega
              have hj4b : 0 ≤ j4 ∧ j4 ≤ 1000 := by omega
              rw [← hj1, ← hj2, ← hj3] at kSx
              have HJ := hide (And.intro hj1 (And.intro hj2 (And.intro hj3 (And.intro hj4 (And.intro hj2y hj3y)))))
              have HFY := hide hfry
              clear hj1 hj2 hj3 hj4 hj2y hj3y hfry
              go_upto_region 25 with fail
              go_upto_region 26 with (
                go_at_call 20
                refine kSx.mono ?_
                rintro e w9 ⟨a9, c9, ss9, hc9, he9, sx9, hs9⟩
                obtain ⟨K, hK⟩ : ∃ K, K = ss9.length := ⟨_, rfl⟩
                rw [← hK] at he9
                subst he9
                have HC9 := hide hc9
                have HK := hide hK
                have HS9 := hide hs9
                clear hs9 hc9 hK kSx)
              have hbW : Below w9.heap.size w9 (w9.alloc (.cells #[.int .i64 j1, .int .u64 (j2 : Int), .int .u64 (j3 : Int), .slice a9 K c9] 51)) := (Below.refl _ _).alloc (Nat.le_refl _) _
              have hX : BxA (w9.alloc (.cells #[.int .i64 j1, .int .u64 (j2 : Int), .int .u64 (j3 : Int), .slice a9 K c9] 51)) w9.heap.size 51 #[.int .i64 j1, .int .u64 (j2 : Int), .int .u64 (j3 : Int), .slice a9 K c9] := BxA.new _ _ _
              obtain ⟨wA, hwA⟩ : ∃ wA, wA = w9.alloc (.cells #[.int .i64 j1, .int .u64 (j2 : Int), .int .u64 (j3 : Int), .slice a9 K c9] 51) := ⟨_, rfl⟩
              obtain ⟨gA, hgA⟩ : ∃ g, g = w9.heap.size := ⟨_, rfl⟩
              rw [← hwA] at hX hbW ⊢
              rw [← hgA] at hX ⊢
              have kSy := HS9.out.swap.sealAt hbW gA (Nat.le_of_eq hgA.symm) hX.lt (by constructor <;> decide) HFY.out (by omega) (by omega) (by omega)
              rw [← HJ.out.2.2.2.1, HJ.out.2.2.2.2.1, HJ.out.2.2.2.2.2] at kSy
              have HXA := hide hX
              clear hwA hgA hbW HS9 s0 hX
              go_upto_region 27 with (
                go_at_call 20
                refine kSy.mono ?_
                rintro e wB ⟨aB, cB, ssB, hcB, heB, hsB, hblk⟩
                rw [← HA8.out.ts] at hcB
                rw [Chks.eq hcB HC9.out, ← HK.out] at heB
                subst heB
                have HXB : Hid (BxA wB gA 51 #[.int .i64 j1, .int .u64 (j2 : Int), .int .u64 (j3 : Int), .slice a9 K c9]) := hide (by have := HXA.out; unfold BxA at this ⊢; rw [hblk]; exact this)
                have HSB2 := hide hsB
                clear hsB hcB kSy hblk)
              obtain ⟨syB, hsB⟩ := HSB2.out
              clear HSB2
              have hbX : Below wB.heap.size wB (wB.alloc (.cells #[.int .i64 j4, .int .u64 (j2 : Int), .int .u64 (j3 : Int), .slice aB K cB] 51)) := (Below.refl _ _).alloc (Nat.le_refl _) _
              have hY : BxA (wB.alloc (.cells #[.int .i64 j4, .int .u64 (j2 : Int), .int .u64 (j3 : Int), .slice aB K cB] 51)) wB.heap.size 51 #[.int .i64 j4, .int .u64 (j2 : Int), .int .u64 (j3 : Int), .slice aB K cB] := BxA.new _ _ _
              have HSC := hide (hsB.swap.up hbX)
              have hXC := bx_up HXB.out hbX
              obtain ⟨wC, hwC⟩ : ∃ w, w = wB.alloc (.cells #[.int .i64 j4, .int .u64 (j2 : Int), .int .u64 (j3 : Int), .slice aB K cB] 51) := ⟨_, rfl⟩
              obtain ⟨gC, hgC⟩ : ∃ g, g = wB.heap.size := ⟨_, rfl⟩
              rw [← hwC] at hY HSC hXC ⊢
              rw [← hgC] at hY ⊢
              clear hwC hgC hbX hsB HXB
              have y0 : wC.cell? ⟨gC, 0, none⟩ = some (.int .i64 j4) := hY.cell 0 _ rfl
              have y1 : wC.cell? ⟨gC, 1, none⟩ = some (.int .u64 (j2 : Int)) := hY.cell 1 _ rfl
              have y2 : wC.cell? ⟨gC, 2, none⟩ = some (.int .u64 (j3 : Int)) := hY.cell 2 _ rfl
              have y3 : wC.cell? ⟨gC, 3, none⟩ = some (.slice aB K cB) := hY.cell 3 _ rfl
              have x0 : wC.cell? ⟨gA, 0, none⟩ = some (.int .i64 j1) := hXC.cell 0 _ rfl
              have x1 : wC.cell? ⟨gA, 1, none⟩ = some (.int .u64 (j2 : Int)) := hXC.cell 1 _ rfl
              have x2 : wC.cell? ⟨gA, 2, none⟩ = some (.int .u64 (j3 : Int)) := hXC.cell 2 _ rfl
              have x3 : wC.cell? ⟨gA, 3, none⟩ = some (.slice a9 K c9) := hXC.cell 3 _ rfl
              have HA9 := hide (HA8.out.seal hfr8)
              clear hY hXC
              go_wp2_with fail
              go_roundg (n - i1)
              case measure => have := HI1.out; omega
              case rel =>
                refine ⟨i1, fst, sx9, syB, Zx ++ [ox8], Zy ++ [oy8], { num := ox8.num + 1, fr := ox8.up, up := ox8.up, v := nl, ts := [] }, { num := oy8.num + 1, fr := oy8.up, up := oy8.up, v := nl, ts := [] }, rfl, rfl, by have := HI1.out; omega, Nat.le_refl _, by omega, by omega, ?_, .inr ⟨by have := HI1.out; omega, HA9.out⟩⟩
                rw [← HJ.out.1, ← HJ.out.2.2.1, ← HJ.out.2.2.2.1, HJ.out.2.2.2.2.2]
                exact HSC.out
          · have hsnz : ¬ (i : Int) < (sn : Int) := by omega
            go_wp2_with fail
            go_roundg (n - i1)
            case measure => have := HI1.out; omega
            case rel => exact ⟨i1, fst, sx, sy, Zx, Zy, ox8, oy8, rfl, rfl, by have := HI1.out; omega, Nat.le_refl _, by omega, by omega, HS8.out, .inr ⟨by have := HI1.out; omega, HA8.out⟩⟩
    · have hie : i = n := by omega
      subst hie
      have hltz : ¬ (i : Int) < (i : Int) := by omega
      by_cases hfi : f = i
      · subst hfi
        go_wp2_with fail
        go_ret
        exact ⟨rfl, HB1.out.trans (HS.out.bl.mono HB1.out.size)⟩
      · have hfiz : ¬ (f : Int) = (i : Int) := by omega
        rcases hphase with hp1 | ⟨hfl, HAL⟩
        · exact absurd (Nat.le_antisymm hp1.1 hfn).symm (fun e => hfi e)
        as_aux_lemma =>
          have hax := bh_all HAL.out.cx HAL.out.rx HAL.out.ax
          have hay := bh_all HAL.out.cy HAL.out.ry HAL.out.ay
          obtain ⟨tk, htk⟩ : ∃ l, l = ((ts.map tm).take i).drop f := ⟨_, rfl⟩
          rw [← htk] at hax hay
          have htl2 : tk.length ≤ 60 := by rw [htk, List.length_drop, List.length_take]; omega
          obtain ⟨a1, a2, a3, a4, a5, a6, a7⟩ := hax
          obtain ⟨b1, b2, b3, b4, b5, b6, b7⟩ := hay
          obtain ⟨u, hu⟩ : ∃ u, u = f + tk.length := ⟨_, rfl⟩
          rw [← hu] at a4 b4 a6 b6
          have kX := HS.out.x.behind (by decide) f (by rw [a2]; exact Nat.le_refl _) a3 (by omega) (by omega) (fun p hp => by have := a6 p hp; omega) (fun i => by have := a7 i; omega)
          rw [a1, a4] at kX
          obtain ⟨K, hK⟩ : ∃ K, K = tk.length := ⟨_, rfl⟩
          have HK := hide hK
          have hK60 : K ≤ 60 := by omega
          have HU := hide (And.intro a4 b4)
          have hub : u ≤ 200 := by omega
          have hfs3 : f ≤ oy.up := b3
          have HB2 := hide b2
          have HBI := hide (And.intro b1 (And.intro b6 b7))
          have hbz : Zy.length ≤ 200 := by omega
          clear a1 a2 a3 a4 a5 a6 a7 b1 b2 b3 b4 b5 b6 b7 htk htl2 hu hK hfs3
          go_upto_region 32 with (
            go_at_call 21
            refine kX.mono ?_
            rintro e w5 ⟨v5, he5, -, hr5, hb5⟩
            subst he5
            obtain ⟨a5, c5, hx5⟩ := own_sl hr5
            rw [← HK.out] at hx5
            subst hx5
            have HS5 := hide (HS.out.up hb5)
            have HR5 := hide hr5
            clear hr5 hb5 kX)
          have kY := HS5.out.swap.x.behind (by decide) f (by rw [HB2.out]; exact Nat.le_refl _) (by rw [HU.out.2]; have := HAL.out.upx.2; have := HU.out.2; omega) (by rw [HU.out.2]; omega) (by omega) (fun p hp => by have := HBI.out.2.1 p hp; omega) (fun i => by have := HBI.out.2.2 i; have := HK.out; omega)
          rw [HBI.out.1, HU.out.2] at kY
          go_upto_region 33 with (
            go_at_call 21
            refine kY.mono ?_
            rintro e w6 ⟨v6, he6, -, hr6, hb6⟩
            subst he6
            obtain ⟨a6, c6, hx6⟩ := own_sl hr6
            rw [← HK.out] at hx6
            subst hx6
            have HS6 := hide (HS5.out.up hb6)
            have HR6 := hide hr6
            have HR5' := hide (own_blk HR5.out fun r hr => hb6.block r (World.ownsRow.lt HR5.out r hr).2)
            clear hr6 hb6 kY)
          have kSm := same_any w6 a5 a6 K c5 c6 tk (by have := RdsK.of_own HR5'.out; rw [← HK.out] at this; exact this) (by have := RdsK.of_own HR6.out; rw [← HK.out] at this; exact this) (own_spot HR5'.out) (own_spot HR6.out) (by omega)
          have kNx := fun w (h : Below w6.heap.size w6 w) => (HS6.out.up h).x.next (by decide) (by rw [HU.out.1]; omega)
          have kNy := fun w (h : Below w6.heap.size w6 w) => (HS6.out.up h).swap.x.next (by decide) (by rw [HU.out.2]; omega)
          rw [HU.out.1] at kNx
          rw [HU.out.2] at kNy
          go_wp2_with (first
            | (go_at_call 24
               refine kSm.mono ?_
               rintro e w7 ⟨he7, hb7⟩
               subst he7
               have HB7 := hide hb7
               have HBF := hide (HB1.out.trans ((HS6.out.bl.trans (hb7.mono HS6.out.bl.size)).mono HB1.out.size))
               have kX7 := kNx w7 hb7
               have kY7 := kNy w7 hb7
               clear hb7 kSm)
            | (go_at_call 14; refine kX7.mono ?_; rintro e w9 ⟨he9, hw9⟩; have hw9 := hw9.symm; subst he9; subst hw9; clear kX7)
            | (go_at_call 14; refine kY7.mono ?_; rintro e w9 ⟨he9, hw9⟩; have hw9 := hw9.symm; subst he9; subst hw9))
          go_ret
          exact ⟨rfl, HBF.out⟩
end Go.Proofs.Ytmnlkmgpikilbaa
