/- IntakeOnce's walk. -/
import Derived.Test.YtmnlkmgpikilbaaChn
namespace Go.Proofs.Ytmnlkmgpikilbaa
open Go.RowKit Go.Maps Go.Sort
set_option linter.unusedVariables false

def ab (z : Int) : Nat := if z < 0 then (-(z + 1)).toNat else z.toNat
set_option maxRecDepth 20000 in
theorem abs_any (w : World) (z : Int) (hz : -9223372036854775808 ≤ z ∧ z ≤ 9223372036854775807) : Calls Try.prog 17 #[.int .i64 z] w fun e w' => e = .returned (.int .i64 (ab z : Int)) ∧ w' = w := by
  by_cases h : z < 0
  · obtain ⟨m, hm⟩ : ∃ m : Nat, m = ab z := ⟨_, rfl⟩
    have hm' : (m : Int) = -(z + 1) := by rw [hm]; unfold ab; rw [if_pos h]; omega
    rw [← hm, hm']
    have h1 : -9223372036854775808 ≤ z + 1 := by omega
    have h2 : z + 1 ≤ 9223372036854775807 := by omega
    clear hm hm'
    go_enter Try.func17, Try.ntmps17
    go_wp2_with fail
    go_ret
    exact ⟨rfl, rfl⟩
  · obtain ⟨m, hm⟩ : ∃ m : Nat, m = ab z := ⟨_, rfl⟩
    have hm' : (m : Int) = z := by rw [hm]; unfold ab; rw [if_neg h]; omega
    rw [← hm, hm']
    clear hm hm'
    go_enter Try.func17, Try.ntmps17
    go_wp2_with fail
    go_ret
    exact ⟨rfl, rfl⟩
theorem ab_le (z : Int) (hz : -9223372036854775808 ≤ z ∧ z ≤ 9223372036854775807) : ab z ≤ 9223372036854775807 := by
  unfold ab
  split <;> omega
/-- A slice of cells that came in. -/
structure RdC (W : World) (a : Option Addr) (n : Nat) (xs : List Value) : Prop where
  len : xs.length = n
  fit : n ≤ maxLen
  at' : ∀ i u, xs[i]? = some u → ∃ b o, a = some ⟨b, o, none⟩ ∧ W.cell? ⟨b, o + i, none⟩ = some u
def i64s (l : List Int) : List Value := l.map (.int .i64)
def bls (l : List Bool) : List Value := l.map .bool
/-- The time that is taken of a number. -/
def tm (t : Int) : Int := ((ab t % 100 : Nat) : Int)
set_option maxRecDepth 20000 in
set_option maxHeartbeats 8000000 in
theorem once_walk (W : World) (ta : Option Addr) (tn tc : Nat) (ts : List Int) (ht : RdC W ta tn (i64s ts)) (htr : ∀ t ∈ ts, -9223372036854775808 ≤ t ∧ t ≤ 9223372036854775807) (pa : Option Addr) (pn pc : Nat) (ps : List Int) (hp : RdC W pa pn (i64s ps)) (hpr : ∀ t ∈ ps, -9223372036854775808 ≤ t ∧ t ≤ 9223372036854775807) (sa : Option Addr) (sn sc : Nat) (bs : List Bool) (hs : RdC W sa sn (bls bs)) (htc : tn ≤ tc) (hpc : pn ≤ pc) (hsc : sn ≤ sc) :
    Calls Try.prog 4 #[.slice ta tn tc, .slice pa pn pc, .slice sa sn sc] W fun e W' => e = .returned (.bool true) ∧ Below W.heap.size W W' := by
  have HT := hide ht
  have HTR := hide htr
  have HP := hide hp
  have HPR := hide hpr
  have HSB := hide hs
  have hf1 := ht.fit
  have hf2 := hp.fit
  have hf3 := hs.fit
  have HF := hide hf1
  unfold maxLen at hf1 hf2 hf3
  clear ht htr hp hpr hs
  go_enter Try.func4, Try.ntmps4
  go_upto_region 5 with (first
    | (go_at_call 9
       refine (awake_any W).mono ?_
       rintro e w1 ⟨he1, hb1⟩
       subst he1
       have HB1 := hide hb1
       clear hb1)
    | (go_at_call 10
       refine (St.new w1 7 (by constructor <;> decide) 0 (by decide)).mono ?_
       rintro e w2 ⟨x, he2, hs2⟩
       subst he2
       have HS2 := hide hs2
       have HB2 := hide (HB1.out.trans (hs2.bl.mono HB1.out.size))
       clear hs2))
  by_cases h0 : tn = 0
  · subst h0
    go_wp2_with fail
    go_ret
    exact ⟨rfl, HB2.out⟩
  have htn : 0 < tn := by omega
  have htz : ¬ (tn : Int) = 0 := by omega
  go_upto_region 9 with fail
  rename (((tn : Int) == 0) = false) => q0
  clear h0 htz q0
  go_loopg [10, 11] pn (fun kx v10 v11 wr => ∃ (i k : Nat) (Z : List Kp) (o : Kp) (sv : Value), v10 = .int .i64 (k : Int) ∧ v11 = .int .i64 (i : Int) ∧ i ≤ pn ∧ i ≤ 300 ∧ k ≤ i ∧ k ≤ tn ∧ pn - i ≤ kx ∧ Hid (St w1 wr x 7 sv Z o) ∧ Hid (ChZ Z o ((ts.map tm).take k)))
  case atStart => exact ⟨0, 0, [], _, _, rfl, rfl, Nat.zero_le _, Nat.zero_le _, Nat.le_refl _, Nat.zero_le _, Nat.le_refl _, HS2.out, ChZ.new⟩
  case round =>
    obtain ⟨i, k, Z, o, sv, rfl, rfl, hi, hi3, hki, hkt, hkx, HS, HC⟩ := hrel
    by_cases hlt : i < pn ∧ i < 300
    · have hl1 : (i : Int) < (pn : Int) := by omega
      have hl2 : (i : Int) < 300 := by omega
      have hil : i < ps.length := by have := HP.out.len; simp [i64s] at this; omega
      obtain ⟨p, hpe⟩ : ∃ p, p = ps[i] := ⟨_, rfl⟩
      have hpm : -9223372036854775808 ≤ p ∧ p ≤ 9223372036854775807 := HPR.out p (by rw [hpe]; exact List.getElem_mem hil)
      obtain ⟨pb, po, hpa, hpc0⟩ := HP.out.at' i (.int .i64 p) (by unfold i64s; rw [hpe]; simp [hil])
      subst hpa
      have c0 := cell_upB (HB1.out.trans (HS.out.bl.mono HB1.out.size)) hpc0
      have kA := abs_any wr p hpm
      obtain ⟨m, hm⟩ : ∃ m, m = ab p := ⟨_, rfl⟩
      have hm1 : m ≤ 9223372036854775807 := by rw [hm]; exact ab_le p hpm
      rw [← hm] at kA
      clear hm hpc0 hpe
      obtain ⟨n0, hn0⟩ : ∃ n, n = m % tn := ⟨_, rfl⟩
      have hn0z : (m : Int) % (tn : Int) = (n0 : Int) := by rw [hn0]; exact (Int.natCast_emod m tn).symm
      have hn0l : n0 < tn := by rw [hn0]; exact Nat.mod_lt _ htn
      obtain ⟨n1, hn1⟩ : ∃ n, n = min k (tn - 1) := ⟨_, rfl⟩
      obtain ⟨t1, ht1⟩ : ∃ t, t = tn - 1 := ⟨_, rfl⟩
      have ht1z : (tn : Int) - 1 = (t1 : Int) := by omega
      have hn1z : min (k : Int) (t1 : Int) = (n1 : Int) := by omega
      have hn1l : n1 < tn := by omega
      clear hn0 hn1 ht1
      by_cases h3 : 0 < (m : Int) % 3
      · go_upto_region 14 with (go_at_call 17; refine kA.mono ?_; rintro e w3 ⟨he3, hw3⟩; have hw3 := hw3.symm; subst he3; subst hw3)
        obtain ⟨n, hn⟩ : ∃ n, n = n1 := ⟨_, rfl⟩
        rw [← hn]
        have hnt : n < tn := by omega
        clear hn hn1z hn0z hn0l hn1l h3 ht1z
        have hnl : n < ts.length := by have := HT.out.len; simp [i64s] at this; omega
        obtain ⟨t0, ht0⟩ : ∃ t, t = ts[n] := ⟨_, rfl⟩
        have htm : -9223372036854775808 ≤ t0 ∧ t0 ≤ 9223372036854775807 := HTR.out t0 (by rw [ht0]; exact List.getElem_mem hnl)
        obtain ⟨tb, tq, hta, htc0⟩ := HT.out.at' n (.int .i64 t0) (by unfold i64s; rw [ht0]; simp [hnl])
        subst hta
        have d0 := cell_upB (HB1.out.trans (HS.out.bl.mono HB1.out.size)) htc0
        have kT := abs_any wr t0 htm
        obtain ⟨mt, hmt⟩ : ∃ m, m = ab t0 := ⟨_, rfl⟩
        have hmt1 : mt ≤ 9223372036854775807 := by rw [hmt]; exact ab_le t0 htm
        obtain ⟨q, hq⟩ : ∃ q, q = mt % 100 := ⟨_, rfl⟩
        have hqz : (mt : Int) % 100 = (q : Int) := by omega
        have hq1 : q < 100 := by omega
        have HQ : Hid (tm t0 = (q : Int)) := by apply hide; rw [hq, hmt]; rfl
        have HT0 := hide ht0
        rw [← hmt] at kT
        have hup : o.up = k := by rw [HC.out.up, List.length_take, List.length_map]; have := HT.out.len; simp [i64s] at this; omega
        obtain ⟨n', hn'⟩ : ∃ m, m = n + 1 := ⟨_, rfl⟩
        have hnz : (n : Int) + 1 = (n' : Int) := by omega
        have hnb : (n' : Int) ≤ 9223372036854775807 := by omega
        have HN' := hide hn'
        have HUP := hide hup
        clear hmt hq htc0 ht0 kA c0 hn' hup
        by_cases hnk : n = k
        · subst hnk
          go_upto_region 16 with (first
            | (go_at_call 17; refine kT.mono ?_; rintro e w4 ⟨he4, hw4⟩; have hw4 := hw4.symm; subst he4; subst hw4)
            | (go_at_call 19
               refine (at_any (q : Int) _).mono ?_
               rintro e w5 ⟨he5, hg5⟩
               subst he5
               have HS5 := hide (HS.out.up hg5.below)
               clear hg5)
            | (go_at_call 18
               refine (HS5.out.good (by decide) (by have := HUP.out; omega) n' (by have := HUP.out; have := HN'.out; omega) (q : Int) ⟨by omega, by omega⟩).mono ?_
               rintro e w6 ⟨he6, hs6⟩
               subst he6
               have HS6 := hide hs6
               clear hs6))
          obtain ⟨v6, hs6⟩ := HS6.out
          obtain ⟨k6, hk6⟩ : ∃ k, k = n' := ⟨_, rfl⟩
          have htk : (ts.map tm).take k6 = (ts.map tm).take n ++ [(q : Int)] := by
            rw [hk6, HN'.out, List.take_succ_eq_append_getElem (by simpa using hnl), ← HQ.out, HT0.out]
            simp
          have HC6 := hide (HC.out.take v6 (q : Int))
          rw [← htk] at HC6
          clear HS6
          have HS6 := hide hs6
          have hki6 : k6 ≤ i + 1 := by have := HN'.out; omega
          have hkt6 : k6 ≤ tn := by have := HN'.out; omega
          obtain ⟨o6, ho6⟩ : ∃ o6 : Kp, o6 = { num := o.num, fr := o.fr, up := o.up + 1, v := v6, ts := o.ts ++ [(q : Int)] } := ⟨_, rfl⟩
          rw [← ho6] at HS6 HC6
          rw [← hk6] at hnz hnb ⊢
          clear htk hs6 ho6 HN' hk6
          go_upto_region 20 with fail
          have hup6 := HC6.out.up
          have hzl6 := HC6.out.zlen
          have hnum6 := HC6.out.n
          have hl6 : ((ts.map tm).take k6).length ≤ 301 := by rw [List.length_take]; omega
          have hfu6 : o6.fr ≤ o6.up := by have := HC6.out.r; omega
          by_cases hsn : i < sn
          · have hsl : i < bs.length := by have := HSB.out.len; simp [bls] at this; omega
            have hsnz : (i : Int) < (sn : Int) := by omega
            obtain ⟨b, hb⟩ : ∃ b, b = bs[i] := ⟨_, rfl⟩
            obtain ⟨sb, so, hsa, hsc0⟩ := HSB.out.at' i (.bool b) (by unfold bls; rw [hb]; simp [hsl])
            subst hsa
            have s0 := cell_upB (HB1.out.trans (HS6.out.bl.mono HB1.out.size)) hsc0
            clear hsc0 hb
            cases b
            · go_wp2_with fail
              go_roundg (pn - (i + 1))
              case measure => omega
              case rel => exact ⟨i + 1, k6, Z, o6, sv, rfl, rfl, by omega, by omega, by omega, by omega, Nat.le_refl _, HS6.out, HC6.out⟩
            · by_cases hfu : o6.up = o6.fr
              · go_wp2_with (
                  go_at_call 20
                  refine (HS6.out.sealNone (by decide) hfu).mono ?_
                  rintro e w7 ⟨he7, hs7⟩
                  subst he7
                  have HS7 := hide hs7
                  clear hs7)
                go_roundg (pn - (i + 1))
                case measure => omega
                case rel => exact ⟨i + 1, k6, Z, o6, sv, rfl, rfl, by omega, by omega, by omega, by omega, Nat.le_refl _, HS7.out, HC6.out⟩
              · go_wp2_with (
                  go_at_call 20
                  refine (HS6.out.sealGood (by constructor <;> decide) (by omega) (by omega) (by omega) (by omega)).mono ?_
                  rintro e w7 ⟨v7, he7, ⟨sv7, hs7⟩, -⟩
                  subst he7
                  have HS7 := hide hs7
                  clear hs7)
                go_roundg (pn - (i + 1))
                case measure => omega
                case rel => exact ⟨i + 1, k6, _, _, sv7, rfl, rfl, by omega, by omega, by omega, by omega, Nat.le_refl _, HS7.out, HC6.out.seal (by omega)⟩
          · have hsnz : ¬ (i : Int) < (sn : Int) := by omega
            go_wp2_with fail
            go_roundg (pn - (i + 1))
            case measure => omega
            case rel => exact ⟨i + 1, k6, Z, o6, sv, rfl, rfl, by omega, by omega, by omega, by omega, Nat.le_refl _, HS6.out, HC6.out⟩
        by_cases hnk2 : n < k
        · go_upto_region 16 with (first
            | (go_at_call 17; refine kT.mono ?_; rintro e w4 ⟨he4, hw4⟩; have hw4 := hw4.symm; subst he4; subst hw4)
            | (go_at_call 19
               refine (at_any (q : Int) _).mono ?_
               rintro e w5 ⟨he5, hg5⟩
               subst he5
               have HS5 := hide (HS.out.up hg5.below)
               clear hg5)
            | (go_at_call 18
               refine (HS5.out.old (by decide) (by have := HUP.out; omega) n' (by have := HUP.out; have := HN'.out; omega) (q : Int)).mono ?_
               rintro e w6 ⟨he6, hs6⟩
               subst he6
               have HS6 := hide hs6
               clear hs6))
          obtain ⟨k6, hk6⟩ : ∃ k6, k6 = k := ⟨_, rfl⟩
          obtain ⟨o6, ho6⟩ : ∃ o6, o6 = o := ⟨_, rfl⟩
          have HC6 := HC
          rw [← ho6] at HS6 HC6
          rw [← hk6] at HC6 hnk hnk2 ⊢
          have hki6 : k6 ≤ i + 1 := by omega
          have hkt6 : k6 ≤ tn := by omega
          clear ho6 hk6
          go_upto_region 20 with fail
          have hup6 := HC6.out.up
          have hzl6 := HC6.out.zlen
          have hnum6 := HC6.out.n
          have hl6 : ((ts.map tm).take k6).length ≤ 301 := by rw [List.length_take]; omega
          have hfu6 : o6.fr ≤ o6.up := by have := HC6.out.r; omega
          by_cases hsn : i < sn
          · have hsl : i < bs.length := by have := HSB.out.len; simp [bls] at this; omega
            have hsnz : (i : Int) < (sn : Int) := by omega
            obtain ⟨b, hb⟩ : ∃ b, b = bs[i] := ⟨_, rfl⟩
            obtain ⟨sb, so, hsa, hsc0⟩ := HSB.out.at' i (.bool b) (by unfold bls; rw [hb]; simp [hsl])
            subst hsa
            have s0 := cell_upB (HB1.out.trans (HS6.out.bl.mono HB1.out.size)) hsc0
            clear hsc0 hb
            cases b
            · go_wp2_with fail
              go_roundg (pn - (i + 1))
              case measure => omega
              case rel => exact ⟨i + 1, k6, Z, o6, sv, rfl, rfl, by omega, by omega, by omega, by omega, Nat.le_refl _, HS6.out, HC6.out⟩
            · by_cases hfu : o6.up = o6.fr
              · go_wp2_with (
                  go_at_call 20
                  refine (HS6.out.sealNone (by decide) hfu).mono ?_
                  rintro e w7 ⟨he7, hs7⟩
                  subst he7
                  have HS7 := hide hs7
                  clear hs7)
                go_roundg (pn - (i + 1))
                case measure => omega
                case rel => exact ⟨i + 1, k6, Z, o6, sv, rfl, rfl, by omega, by omega, by omega, by omega, Nat.le_refl _, HS7.out, HC6.out⟩
              · go_wp2_with (
                  go_at_call 20
                  refine (HS6.out.sealGood (by constructor <;> decide) (by omega) (by omega) (by omega) (by omega)).mono ?_
                  rintro e w7 ⟨v7, he7, ⟨sv7, hs7⟩, -⟩
                  subst he7
                  have HS7 := hide hs7
                  clear hs7)
                go_roundg (pn - (i + 1))
                case measure => omega
                case rel => exact ⟨i + 1, k6, _, _, sv7, rfl, rfl, by omega, by omega, by omega, by omega, Nat.le_refl _, HS7.out, HC6.out.seal (by omega)⟩
          · have hsnz : ¬ (i : Int) < (sn : Int) := by omega
            go_wp2_with fail
            go_roundg (pn - (i + 1))
            case measure => omega
            case rel => exact ⟨i + 1, k6, Z, o6, sv, rfl, rfl, by omega, by omega, by omega, by omega, Nat.le_refl _, HS6.out, HC6.out⟩
        · go_upto_region 16 with (first
            | (go_at_call 17; refine kT.mono ?_; rintro e w4 ⟨he4, hw4⟩; have hw4 := hw4.symm; subst he4; subst hw4)
            | (go_at_call 19
               refine (at_any (q : Int) _).mono ?_
               rintro e w5 ⟨he5, hg5⟩
               subst he5
               have HS5 := hide (HS.out.up hg5.below)
               clear hg5)
            | (go_at_call 18
               refine (HS5.out.gap (by decide) (by have := HUP.out; omega) n' (by have := HUP.out; have := HN'.out; omega) (q : Int)).mono ?_
               rintro e w6 ⟨he6, hs6⟩
               subst he6
               have HS6 := hide hs6
               clear hs6))
          obtain ⟨k6, hk6⟩ : ∃ k6, k6 = k := ⟨_, rfl⟩
          obtain ⟨o6, ho6⟩ : ∃ o6, o6 = o := ⟨_, rfl⟩
          have HC6 := HC
          rw [← ho6] at HS6 HC6
          rw [← hk6] at HC6 hnk hnk2 ⊢
          have hki6 : k6 ≤ i + 1 := by omega
          have hkt6 : k6 ≤ tn := by omega
          clear ho6 hk6
          go_upto_region 20 with fail
          have hup6 := HC6.out.up
          have hzl6 := HC6.out.zlen
          have hnum6 := HC6.out.n
          have hl6 : ((ts.map tm).take k6).length ≤ 301 := by rw [List.length_take]; omega
          have hfu6 : o6.fr ≤ o6.up := by have := HC6.out.r; omega
          by_cases hsn : i < sn
          · have hsl : i < bs.length := by have := HSB.out.len; simp [bls] at this; omega
            have hsnz : (i : Int) < (sn : Int) := by omega
            obtain ⟨b, hb⟩ : ∃ b, b = bs[i] := ⟨_, rfl⟩
            obtain ⟨sb, so, hsa, hsc0⟩ := HSB.out.at' i (.bool b) (by unfold bls; rw [hb]; simp [hsl])
            subst hsa
            have s0 := cell_upB (HB1.out.trans (HS6.out.bl.mono HB1.out.size)) hsc0
            clear hsc0 hb
            cases b
            · go_wp2_with fail
              go_roundg (pn - (i + 1))
              case measure => omega
              case rel => exact ⟨i + 1, k6, Z, o6, sv, rfl, rfl, by omega, by omega, by omega, by omega, Nat.le_refl _, HS6.out, HC6.out⟩
            · by_cases hfu : o6.up = o6.fr
              · go_wp2_with (
                  go_at_call 20
                  refine (HS6.out.sealNone (by decide) hfu).mono ?_
                  rintro e w7 ⟨he7, hs7⟩
                  subst he7
                  have HS7 := hide hs7
                  clear hs7)
                go_roundg (pn - (i + 1))
                case measure => omega
                case rel => exact ⟨i + 1, k6, Z, o6, sv, rfl, rfl, by omega, by omega, by omega, by omega, Nat.le_refl _, HS7.out, HC6.out⟩
              · go_wp2_with (
                  go_at_call 20
                  refine (HS6.out.sealGood (by constructor <;> decide) (by omega) (by omega) (by omega) (by omega)).mono ?_
                  rintro e w7 ⟨v7, he7, ⟨sv7, hs7⟩, -⟩
                  subst he7
                  have HS7 := hide hs7
                  clear hs7)
                go_roundg (pn - (i + 1))
                case measure => omega
                case rel => exact ⟨i + 1, k6, _, _, sv7, rfl, rfl, by omega, by omega, by omega, by omega, Nat.le_refl _, HS7.out, HC6.out.seal (by omega)⟩
          · have hsnz : ¬ (i : Int) < (sn : Int) := by omega
            go_wp2_with fail
            go_roundg (pn - (i + 1))
            case measure => omega
            case rel => exact ⟨i + 1, k6, Z, o6, sv, rfl, rfl, by omega, by omega, by omega, by omega, Nat.le_refl _, HS6.out, HC6.out⟩
      · go_upto_region 14 with (go_at_call 17; refine kA.mono ?_; rintro e w3 ⟨he3, hw3⟩; have hw3 := hw3.symm; subst he3; subst hw3)
        obtain ⟨n, hn⟩ : ∃ n, n = n0 := ⟨_, rfl⟩
        rw [← hn]
        have hnt : n < tn := by omega
        clear hn hn1z hn0z hn0l hn1l h3 ht1z
        have hnl : n < ts.length := by have := HT.out.len; simp [i64s] at this; omega
        obtain ⟨t0, ht0⟩ : ∃ t, t = ts[n] := ⟨_, rfl⟩
        have htm : -9223372036854775808 ≤ t0 ∧ t0 ≤ 9223372036854775807 := HTR.out t0 (by rw [ht0]; exact List.getElem_mem hnl)
        obtain ⟨tb, tq, hta, htc0⟩ := HT.out.at' n (.int .i64 t0) (by unfold i64s; rw [ht0]; simp [hnl])
        subst hta
        have d0 := cell_upB (HB1.out.trans (HS.out.bl.mono HB1.out.size)) htc0
        have kT := abs_any wr t0 htm
        obtain ⟨mt, hmt⟩ : ∃ m, m = ab t0 := ⟨_, rfl⟩
        have hmt1 : mt ≤ 9223372036854775807 := by rw [hmt]; exact ab_le t0 htm
        obtain ⟨q, hq⟩ : ∃ q, q = mt % 100 := ⟨_, rfl⟩
        have hqz : (mt : Int) % 100 = (q : Int) := by omega
        have hq1 : q < 100 := by omega
        have HQ : Hid (tm t0 = (q : Int)) := by apply hide; rw [hq, hmt]; rfl
        have HT0 := hide ht0
        rw [← hmt] at kT
        have hup : o.up = k := by rw [HC.out.up, List.length_take, List.length_map]; have := HT.out.len; simp [i64s] at this; omega
        obtain ⟨n', hn'⟩ : ∃ m, m = n + 1 := ⟨_, rfl⟩
        have hnz : (n : Int) + 1 = (n' : Int) := by omega
        have hnb : (n' : Int) ≤ 9223372036854775807 := by omega
        have HN' := hide hn'
        have HUP := hide hup
        clear hmt hq htc0 ht0 kA c0 hn' hup
        by_cases hnk : n = k
        · subst hnk
          go_upto_region 16 with (first
            | (go_at_call 17; refine kT.mono ?_; rintro e w4 ⟨he4, hw4⟩; have hw4 := hw4.symm; subst he4; subst hw4)
            | (go_at_call 19
               refine (at_any (q : Int) _).mono ?_
               rintro e w5 ⟨he5, hg5⟩
               subst he5
               have HS5 := hide (HS.out.up hg5.below)
               clear hg5)
            | (go_at_call 18
               refine (HS5.out.good (by decide) (by have := HUP.out; omega) n' (by have := HUP.out; have := HN'.out; omega) (q : Int) ⟨by omega, by omega⟩).mono ?_
               rintro e w6 ⟨he6, hs6⟩
               subst he6
               have HS6 := hide hs6
               clear hs6))
          obtain ⟨v6, hs6⟩ := HS6.out
          obtain ⟨k6, hk6⟩ : ∃ k, k = n' := ⟨_, rfl⟩
          have htk : (ts.map tm).take k6 = (ts.map tm).take n ++ [(q : Int)] := by
            rw [hk6, HN'.out, List.take_succ_eq_append_getElem (by simpa using hnl), ← HQ.out, HT0.out]
            simp
          have HC6 := hide (HC.out.take v6 (q : Int))
          rw [← htk] at HC6
          clear HS6
          have HS6 := hide hs6
          have hki6 : k6 ≤ i + 1 := by have := HN'.out; omega
          have hkt6 : k6 ≤ tn := by have := HN'.out; omega
          obtain ⟨o6, ho6⟩ : ∃ o6 : Kp, o6 = { num := o.num, fr := o.fr, up := o.up + 1, v := v6, ts := o.ts ++ [(q : Int)] } := ⟨_, rfl⟩
          rw [← ho6] at HS6 HC6
          rw [← hk6] at hnz hnb ⊢
          clear htk hs6 ho6 HN' hk6
          go_upto_region 20 with fail
          have hup6 := HC6.out.up
          have hzl6 := HC6.out.zlen
          have hnum6 := HC6.out.n
          have hl6 : ((ts.map tm).take k6).length ≤ 301 := by rw [List.length_take]; omega
          have hfu6 : o6.fr ≤ o6.up := by have := HC6.out.r; omega
          by_cases hsn : i < sn
          · have hsl : i < bs.length := by have := HSB.out.len; simp [bls] at this; omega
            have hsnz : (i : Int) < (sn : Int) := by omega
            obtain ⟨b, hb⟩ : ∃ b, b = bs[i] := ⟨_, rfl⟩
            obtain ⟨sb, so, hsa, hsc0⟩ := HSB.out.at' i (.bool b) (by unfold bls; rw [hb]; simp [hsl])
            subst hsa
            have s0 := cell_upB (HB1.out.trans (HS6.out.bl.mono HB1.out.size)) hsc0
            clear hsc0 hb
            cases b
            · go_wp2_with fail
              go_roundg (pn - (i + 1))
              case measure => omega
              case rel => exact ⟨i + 1, k6, Z, o6, sv, rfl, rfl, by omega, by omega, by omega, by omega, Nat.le_refl _, HS6.out, HC6.out⟩
            · by_cases hfu : o6.up = o6.fr
              · go_wp2_with (
                  go_at_call 20
                  refine (HS6.out.sealNone (by decide) hfu).mono ?_
                  rintro e w7 ⟨he7, hs7⟩
                  subst he7
                  have HS7 := hide hs7
                  clear hs7)
                go_roundg (pn - (i + 1))
                case measure => omega
                case rel => exact ⟨i + 1, k6, Z, o6, sv, rfl, rfl, by omega, by omega, by omega, by omega, Nat.le_refl _, HS7.out, HC6.out⟩
              · go_wp2_with (
                  go_at_call 20
                  refine (HS6.out.sealGood (by constructor <;> decide) (by omega) (by omega) (by omega) (by omega)).mono ?_
                  rintro e w7 ⟨v7, he7, ⟨sv7, hs7⟩, -⟩
                  subst he7
                  have HS7 := hide hs7
                  clear hs7)
                go_roundg (pn - (i + 1))
                case measure => omega
                case rel => exact ⟨i + 1, k6, _, _, sv7, rfl, rfl, by omega, by omega, by omega, by omega, Nat.le_refl _, HS7.out, HC6.out.seal (by omega)⟩
          · have hsnz : ¬ (i : Int) < (sn : Int) := by omega
            go_wp2_with fail
            go_roundg (pn - (i + 1))
            case measure => omega
            case rel => exact ⟨i + 1, k6, Z, o6, sv, rfl, rfl, by omega, by omega, by omega, by omega, Nat.le_refl _, HS6.out, HC6.out⟩
        by_cases hnk2 : n < k
        · go_upto_region 16 with (first
            | (go_at_call 17; refine kT.mono ?_; rintro e w4 ⟨he4, hw4⟩; have hw4 := hw4.symm; subst he4; subst hw4)
            | (go_at_call 19
               refine (at_any (q : Int) _).mono ?_
               rintro e w5 ⟨he5, hg5⟩
               subst he5
               have HS5 := hide (HS.out.up hg5.below)
               clear hg5)
            | (go_at_call 18
               refine (HS5.out.old (by decide) (by have := HUP.out; omega) n' (by have := HUP.out; have := HN'.out; omega) (q : Int)).mono ?_
               rintro e w6 ⟨he6, hs6⟩
               subst he6
               have HS6 := hide hs6
               clear hs6))
          obtain ⟨k6, hk6⟩ : ∃ k6, k6 = k := ⟨_, rfl⟩
          obtain ⟨o6, ho6⟩ : ∃ o6, o6 = o := ⟨_, rfl⟩
          have HC6 := HC
          rw [← ho6] at HS6 HC6
          rw [← hk6] at HC6 hnk hnk2 ⊢
          have hki6 : k6 ≤ i + 1 := by omega
          have hkt6 : k6 ≤ tn := by omega
          clear ho6 hk6
          go_upto_region 20 with fail
          have hup6 := HC6.out.up
          have hzl6 := HC6.out.zlen
          have hnum6 := HC6.out.n
          have hl6 : ((ts.map tm).take k6).length ≤ 301 := by rw [List.length_take]; omega
          have hfu6 : o6.fr ≤ o6.up := by have := HC6.out.r; omega
          by_cases hsn : i < sn
          · have hsl : i < bs.length := by have := HSB.out.len; simp [bls] at this; omega
            have hsnz : (i : Int) < (sn : Int) := by omega
            obtain ⟨b, hb⟩ : ∃ b, b = bs[i] := ⟨_, rfl⟩
            obtain ⟨sb, so, hsa, hsc0⟩ := HSB.out.at' i (.bool b) (by unfold bls; rw [hb]; simp [hsl])
            subst hsa
            have s0 := cell_upB (HB1.out.trans (HS6.out.bl.mono HB1.out.size)) hsc0
            clear hsc0 hb
            cases b
            · go_wp2_with fail
              go_roundg (pn - (i + 1))
              case measure => omega
              case rel => exact ⟨i + 1, k6, Z, o6, sv, rfl, rfl, by omega, by omega, by omega, by omega, Nat.le_refl _, HS6.out, HC6.out⟩
            · by_cases hfu : o6.up = o6.fr
              · go_wp2_with (
                  go_at_call 20
                  refine (HS6.out.sealNone (by decide) hfu).mono ?_
                  rintro e w7 ⟨he7, hs7⟩
                  subst he7
                  have HS7 := hide hs7
                  clear hs7)
                go_roundg (pn - (i + 1))
                case measure => omega
                case rel => exact ⟨i + 1, k6, Z, o6, sv, rfl, rfl, by omega, by omega, by omega, by omega, Nat.le_refl _, HS7.out, HC6.out⟩
              · go_wp2_with (
                  go_at_call 20
                  refine (HS6.out.sealGood (by constructor <;> decide) (by omega) (by omega) (by omega) (by omega)).mono ?_
                  rintro e w7 ⟨v7, he7, ⟨sv7, hs7⟩, -⟩
                  subst he7
                  have HS7 := hide hs7
                  clear hs7)
                go_roundg (pn - (i + 1))
                case measure => omega
                case rel => exact ⟨i + 1, k6, _, _, sv7, rfl, rfl, by omega, by omega, by omega, by omega, Nat.le_refl _, HS7.out, HC6.out.seal (by omega)⟩
          · have hsnz : ¬ (i : Int) < (sn : Int) := by omega
            go_wp2_with fail
            go_roundg (pn - (i + 1))
            case measure => omega
            case rel => exact ⟨i + 1, k6, Z, o6, sv, rfl, rfl, by omega, by omega, by omega, by omega, Nat.le_refl _, HS6.out, HC6.out⟩
        · go_upto_region 16 with (first
            | (go_at_call 17; refine kT.mono ?_; rintro e w4 ⟨he4, hw4⟩; have hw4 := hw4.symm; subst he4; subst hw4)
            | (go_at_call 19
               refine (at_any (q : Int) _).mono ?_
               rintro e w5 ⟨he5, hg5⟩
               subst he5
               have HS5 := hide (HS.out.up hg5.below)
               clear hg5)
            | (go_at_call 18
               refine (HS5.out.gap (by decide) (by have := HUP.out; omega) n' (by have := HUP.out; have := HN'.out; omega) (q : Int)).mono ?_
               rintro e w6 ⟨he6, hs6⟩
               subst he6
               have HS6 := hide hs6
               clear hs6))
          obtain ⟨k6, hk6⟩ : ∃ k6, k6 = k := ⟨_, rfl⟩
          obtain ⟨o6, ho6⟩ : ∃ o6, o6 = o := ⟨_, rfl⟩
          have HC6 := HC
          rw [← ho6] at HS6 HC6
          rw [← hk6] at HC6 hnk hnk2 ⊢
          have hki6 : k6 ≤ i + 1 := by omega
          have hkt6 : k6 ≤ tn := by omega
          clear ho6 hk6
          go_upto_region 20 with fail
          have hup6 := HC6.out.up
          have hzl6 := HC6.out.zlen
          have hnum6 := HC6.out.n
          have hl6 : ((ts.map tm).take k6).length ≤ 301 := by rw [List.length_take]; omega
          have hfu6 : o6.fr ≤ o6.up := by have := HC6.out.r; omega
          by_cases hsn : i < sn
          · have hsl : i < bs.length := by have := HSB.out.len; simp [bls] at this; omega
            have hsnz : (i : Int) < (sn : Int) := by omega
            obtain ⟨b, hb⟩ : ∃ b, b = bs[i] := ⟨_, rfl⟩
            obtain ⟨sb, so, hsa, hsc0⟩ := HSB.out.at' i (.bool b) (by unfold bls; rw [hb]; simp [hsl])
            subst hsa
            have s0 := cell_upB (HB1.out.trans (HS6.out.bl.mono HB1.out.size)) hsc0
            clear hsc0 hb
            cases b
            · go_wp2_with fail
              go_roundg (pn - (i + 1))
              case measure => omega
              case rel => exact ⟨i + 1, k6, Z, o6, sv, rfl, rfl, by omega, by omega, by omega, by omega, Nat.le_refl _, HS6.out, HC6.out⟩
            · by_cases hfu : o6.up = o6.fr
              · go_wp2_with (
                  go_at_call 20
                  refine (HS6.out.sealNone (by decide) hfu).mono ?_
                  rintro e w7 ⟨he7, hs7⟩
                  subst he7
                  have HS7 := hide hs7
                  clear hs7)
                go_roundg (pn - (i + 1))
                case measure => omega
                case rel => exact ⟨i + 1, k6, Z, o6, sv, rfl, rfl, by omega, by omega, by omega, by omega, Nat.le_refl _, HS7.out, HC6.out⟩
              · go_wp2_with (
                  go_at_call 20
                  refine (HS6.out.sealGood (by constructor <;> decide) (by omega) (by omega) (by omega) (by omega)).mono ?_
                  rintro e w7 ⟨v7, he7, ⟨sv7, hs7⟩, -⟩
                  subst he7
                  have HS7 := hide hs7
                  clear hs7)
                go_roundg (pn - (i + 1))
                case measure => omega
                case rel => exact ⟨i + 1, k6, _, _, sv7, rfl, rfl, by omega, by omega, by omega, by omega, Nat.le_refl _, HS7.out, HC6.out.seal (by omega)⟩
          · have hsnz : ¬ (i : Int) < (sn : Int) := by omega
            go_wp2_with fail
            go_roundg (pn - (i + 1))
            case measure => omega
            case rel => exact ⟨i + 1, k6, Z, o6, sv, rfl, rfl, by omega, by omega, by omega, by omega, Nat.le_refl _, HS6.out, HC6.out⟩
    · have htl : ts.length = tn := by have := HT.out.len; simpa [i64s] using this
      have hlk : ((ts.map tm).take k).length = k := by rw [List.length_take, List.length_map]; omega
      have hup : o.up = k := by rw [HC.out.up, hlk]
      have hzl := HC.out.zlen
      rw [hlk] at hzl
      obtain ⟨k1, hk1⟩ : ∃ m, m = k + 1 := ⟨_, rfl⟩
      have hk1z : (k : Int) + 1 = (k1 : Int) := by omega
      have hk1b : (k1 : Int) ≤ 1000 := by omega
      have HUP := hide hup
      have HLK := hide hlk
      have HK1 := hide hk1
      have kB := HS.out.behind (by decide) 0 (by rw [HC.out.rls]; exact Nat.le_refl _) (Nat.zero_le _) (by omega) (by omega) (fun p hp => by have := HC.out.hbs p hp; omega) (fun j => by have := HC.out.hsum j; omega)
      rw [HC.out.bh, hlk, hup] at kB
      clear hup hlk hk1
      have hq : ¬ (i : Int) < (pn : Int) ∨ (i : Int) < (pn : Int) ∧ ¬ (i : Int) < 300 := by omega
      rcases hq with hq1 | ⟨hq1, hq2⟩
      all_goals (
        go_upto_region 26 with (first
          | (go_at_call 21
             refine kB.mono ?_
             rintro e w7 ⟨v7, he7, hs7, hr7, hb7⟩
             subst he7
             obtain ⟨a7, c7, hx7⟩ := own_sl hr7
             subst hx7
             have HS7 := hide hs7
             have HR7 := hide hr7
             have kN := hs7.next (by decide) (by have := HUP.out; omega)
             rw [HUP.out, ← HK1.out] at kN
             clear hs7 hr7 hb7 kB)
          | (go_at_call 14
             refine kN.mono ?_
             rintro e w8 ⟨he8, hw8⟩
             have hw8 := hw8.symm
             subst he8
             subst hw8)))
      all_goals (
        clear kN
        go_loopg [18] k (fun kx v18 wq => ∃ j : Nat, v18 = .int .i64 (j : Int) ∧ j ≤ k ∧ k - j ≤ kx ∧ Hid (Below w7.heap.size w7 wq))
        case atStart => exact ⟨0, rfl, Nat.zero_le _, Nat.le_refl _, Below.refl _ _⟩
        case round =>
          obtain ⟨j, rfl, hj, hjx, HBQ⟩ := hrel
          by_cases hjk : j < k
          · have hjz : (j : Int) < (k : Int) := by omega
            have hjl : j < ts.length := by omega
            obtain ⟨t0, ht0⟩ : ∃ t, t = ts[j] := ⟨_, rfl⟩
            have htm : -9223372036854775808 ≤ t0 ∧ t0 ≤ 9223372036854775807 := HTR.out t0 (by rw [ht0]; exact List.getElem_mem hjl)
            obtain ⟨tb, tq, hta, htc0⟩ := HT.out.at' j (.int .i64 t0) (by unfold i64s; rw [ht0]; simp [hjl])
            subst hta
            have hBW := (HB1.out.trans (HS7.out.bl.mono HB1.out.size))
            have d0 := cell_upB (hBW.trans (HBQ.out.mono hBW.size)) htc0
            obtain ⟨mt, hmt⟩ : ∃ m, m = ab t0 := ⟨_, rfl⟩
            have hmt1 : mt ≤ 9223372036854775807 := by rw [hmt]; exact ab_le t0 htm
            obtain ⟨q, hq⟩ : ∃ q, q = mt % 100 := ⟨_, rfl⟩
            have hqz : (mt : Int) % 100 = (q : Int) := by omega
            have hqt : (mt : Int).tmod 100 = (q : Int) := by rw [Int.tmod_eq_emod_of_nonneg (by omega)]; omega
            have kA := fun w => abs_any w t0 htm
            rw [← hmt] at kA
            obtain ⟨g7, c7', hx, hc1, hc2, hcell⟩ := own_at (n := k) HR7.out (by omega)
            injection hx with hx1 _ hx3
            subst hx1
            subst hx3
            have f0 := hcell _ _ (fcs_get ((ts.map tm).take k) j (by have := HLK.out; omega)).1
            have e0 : wr.cell? ⟨g7, j * 3, none⟩ = some (.int .i64 (q : Int)) := by
              have := cell_upB HBQ.out f0
              rw [show ((ts.map tm).take k)[j]'(by have := HLK.out; omega) = (q : Int) by rw [hq, hmt, ht0]; simp [tm]] at this
              exact this
            clear f0 hcell hq hmt htc0 ht0 hBW
            go_upto_region 28 with fail
            go_region_with (
              go_at_call 17
              refine (kA _).mono ?_
              rintro e w8 ⟨he8, hw8⟩
              have hw8 := hw8.symm
              subst he8
              subst hw8)
            all_goals (
              go_wp2_with fail
              go_roundg (k - (j + 1))
              case measure => omega
              case rel => exact ⟨j + 1, rfl, hjk, Nat.le_refl _, HBQ.out.trans ((Grows.drew wr).below.mono HBQ.out.size)⟩)
          · have hjz : ¬ (j : Int) < (k : Int) := by omega
            go_wp2_with fail
            go_ret
            have hBW := (HB1.out.trans (HS7.out.bl.mono HB1.out.size))
            exact ⟨rfl, hBW.trans (HBQ.out.mono hBW.size)⟩)
end Go.Proofs.Ytmnlkmgpikilbaa
