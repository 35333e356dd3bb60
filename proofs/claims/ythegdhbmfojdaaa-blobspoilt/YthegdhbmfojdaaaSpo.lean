/- A blob whose file was changed isn't read. -/
import Derived.Test.YthegdhbmfojdaaaSpM
import Derived.Test.YthegdhbmfojdaaaNum
namespace Go.Proofs.Ythegdhbmfojdaaa
open Go.RowKit Go.Maps Go.Sort
set_option linter.unusedVariables false

set_option maxRecDepth 100000 in
set_option maxHeartbeats 6400000 in
theorem blobSpoilt_walk (w : World) (v : Value) (l : Str) (hr : Reads w v l) (hl : l.length ≤ 140737488351232) (at_ : Int) (ha1 : -9223372036854775808 ≤ at_) (ha2 : at_ ≤ 9223372036854775807) (E : Nat) (hE : E < 4294967296) (ls : Int) (hs1 : -9223372036854775808 ≤ ls) (hs2 : ls ≤ 9223372036854775807) (v5 : Value) (mo : Str) (hmo : Reads w v5 mo) (hml : mo.length ≤ 140737488351232) :
    Calls Try.prog 6 #[v, .int .i64 at_, .int .u32 (E : Int), .int .i64 ls, v5] w fun e w' => e = .returned (.bool true) ∧ Below w.heap.size w w' := by
  obtain ⟨i0, hi0, hz0, hz1, hz2⟩ := info_parts Try.info5
  have HR : Hid (Reads w v l) := hr
  obtain ⟨va, vc, rfl⟩ : ∃ a c, v = .slice a l.length c := by obtain ⟨a, c, e, _⟩ := hr; exact ⟨_, _, e⟩
  have HMO : Hid (Reads w v5 mo) := hmo
  obtain ⟨ma, mc, rfl⟩ : ∃ a c, v5 = .slice a mo.length c := by obtain ⟨a, c, e, _⟩ := hmo; exact ⟨_, _, e⟩
  have HAT : Hid (-9223372036854775808 ≤ at_ ∧ at_ ≤ 9223372036854775807) := ⟨ha1, ha2⟩
  have HLS : Hid (-9223372036854775808 ≤ ls ∧ ls ≤ 9223372036854775807) := ⟨hs1, hs2⟩
  clear hr hmo ha1 ha2 hs1 hs2
  go_enter Try.func6, Try.ntmps6
  go_wp2_with fail
  refine (awake_any w).mono ?_
  rintro e w1 ⟨rfl, b1⟩
  have HB1 : Hid (Below w.heap.size w w1) := b1
  clear b1
  go_wp2_with fail
  refine (new_fr w1).mono ?_
  rintro e w2 ⟨rfl, d2, b2⟩
  have kO := open_ls w w2 w1.heap.size (HB1.out.trans (b2.mono HB1.out.size)) d2 HB1.out.size
  obtain ⟨d, hd⟩ : ∃ d, d = w1.heap.size := ⟨_, rfl⟩
  rw [← hd] at kO
  rw [← hd]
  clear d2 b2 hd HB1
  go_wp2_with fail
  refine kO.mono ?_
  rintro e w3 ⟨p, rfl, h3⟩
  have H3 : Hid (LS w w3 p d (fun i => i = d) 0 st0) := h3
  clear kO h3
  by_cases hlong : 2000 < l.length
  · have hlz : (2000 : Int) < (l.length : Int) := by omega
    go_wp2_with fail
    go_ret
    exact ⟨by first | rfl | simp, H3.out.bel⟩
  · have hlz : ¬ (2000 : Int) < (l.length : Int) := by omega
    have HL20 : Hid (l.length ≤ 2000) := by apply hide; omega
    have HLM : Hid (l.length ≤ 1048576) := by apply hide; omega
    have kP := put_ls w w3 p d 0 (fun i => i = d) st0 [97] l (.slice va l.length vc) H3.out (by simp [maxLen]) (fun w' hf => (HR.out.below H3.out.bel).fra HR.out.blk H3.out.F0 hf) (by omega) (by decide)
    rw [on1 l HLM.out] at kP
    clear hlong
    go_wp2_with fail
    refine kP.mono ?_
    rintro e w5 ⟨rfl, ⟨F5, h5, -⟩, -⟩
    replace h5 := h5.tight (M := 2008) (fun f hf => by
      have hf' : f = ⟨[98, 46, 97], Wi.framed l, (Wi.framed l).length⟩ := List.mem_singleton.1 hf
      subst hf'
      show (Wi.framed l).length ≤ 2008
      rw [framed_len]
      have := HL20.out
      omega)
    have H5 : Hid (LS w w5 p d F5 2008 (onS l)) := h5
    have kR := read_any w5 d 2008 F5 (onS l) [98, 46, 97] h5.dk (by simp [maxLen]) (by omega)
    rw [(sp_read l).1, (sp_read l).2] at kR
    clear kP h5 H3 hlz
    go_wp2_with fail
    refine kR.mono ?_
    rintro e w6 ⟨v6, rfl, o6, b6⟩
    obtain ⟨L8, hL8⟩ : ∃ n, n = l.length + 8 := ⟨_, rfl⟩
    have hfl : (Wi.framed l).length = L8 := by rw [framed_len, hL8]
    obtain ⟨g, cp, hv6, hfz⟩ := owns_g o6 (by rw [hfl]; omega)
    rw [hfl] at hv6
    subst hv6
    have H6 : Hid (LS w w6 p d F5 2008 (onS l)) := H5.out.below b6
    have HO6 : Hid (Owns w6 w5.heap.size (.slice (some ⟨g, 0, none⟩) L8 cp) (Wi.framed l)) := o6
    have H6b : Hid (w.heap.size ≤ w5.heap.size) := H5.out.bel.size
    have HG : Hid (w5.heap.size ≤ g ∧ g < w6.heap.size) := own_lt o6 g rfl
    have HGF : Hid (¬ F5 g ∧ g ≠ p) := ⟨fun hf => by have := H5.out.dk.lt _ hf; have := HG.out.1; omega, by have := H5.out.plt; have := HG.out.1; omega⟩
    have hcap : L8 ≤ cp ∧ cp ≤ 2 ^ 63 - 1 := by
      obtain ⟨a', c', e', q1, q2, -⟩ := o6.reads
      rw [hfl] at e' q1
      simp only [Value.slice.injEq, true_and] at e'
      obtain ⟨-, rfl⟩ := e'
      exact ⟨q1, q2⟩
    have HFL : Hid ((Wi.framed l).length = L8) := hfl
    have HL8 : Hid (L8 = l.length + 8) := hL8
    have hL1 : 8 ≤ L8 := by omega
    have hL2 : L8 ≤ 2008 := by have := HL20.out; omega
    have kAb := abs_any w6 at_ HAT.out.1 HAT.out.2
    have hab := absN_lt HAT.out.1 HAT.out.2
    obtain ⟨A, hA⟩ : ∃ A, A = absN at_ := ⟨_, rfl⟩
    rw [← hA] at kAb hab
    have hz8 : ¬ (L8 : Int) < 8 := by omega
    obtain ⟨T, hT, hTb⟩ : ∃ T : Nat, (A : Int) % (8 * (L8 : Int) - 31) = (T : Int) ∧ T + 32 ≤ 8 * L8 := by
      have e2 := Int.emod_nonneg (A : Int) (show 8 * (L8 : Int) - 31 ≠ 0 by omega)
      have e3 := Int.emod_lt_of_pos (A : Int) (show 0 < 8 * (L8 : Int) - 31 by omega)
      exact ⟨((A : Int) % (8 * (L8 : Int) - 31)).toNat, by omega, by omega⟩
    clear kR o6 b6 hfl hL8 hA hfz H5
    go_wp2_with fail
    refine kAb.mono ?_
    rintro e wq ⟨rfl, rfl⟩
    clear kAb
    go_wp2_with fail
    simp only [hT]
    clear hT hz8
    go_loopg [17, 18] 32 (fun kx vi _ wr => ∃ (i : Nat) (m : Str), vi = .int .i64 (i : Int) ∧ i ≤ 32 ∧ 32 - i ≤ kx ∧ Hid (m.length = L8) ∧ Hid (Wi.Four.num m = Wi.Four.num (Wi.framed l) ^^^ ((E % 2 ^ i) * 2 ^ T)) ∧ Hid (Owns wr w5.heap.size (.slice (some ⟨g, 0, none⟩) L8 cp) m) ∧ Hid (Fr (fun i => i = g) wq wr))
    case atStart => exact ⟨0, Wi.framed l, rfl, by omega, Nat.le_refl _, HFL, by apply hide; simp [Nat.mod_one], HO6, Fr.refl _ _⟩
    case round =>
      obtain ⟨i, m, rfl, hi, hkx, HML, HNU, HOm, HFm⟩ := hrel
      by_cases hlt : i < 32
      · have hltz : (i : Int) < 32 := by omega
        obtain ⟨K, hK, hKn⟩ : ∃ K : Nat, (T : Int) + (i : Int) = (K : Int) ∧ K = T + i := ⟨T + i, by simp, rfl⟩
        have hq : K / 8 < L8 := by omega
        have hck : wr.cell? ⟨g, K / 8, none⟩ = some (.int .u8 ((m.getD (K / 8) 0).toNat : Int)) := by
          have := World.ownsRow.cells HOm.out rfl (K / 8) _ (bv_get m (K / 8) (by rw [HML.out]; exact hq))
          rw [Addr.add_lit] at this
          simpa using this
        obtain ⟨g', c', hV, hfz⟩ := owns_g HOm.out (by rw [HML.out]; omega)
        injection hV with q1 q2 q3
        injection q1 with q1
        injection q1 with q1
        subst q1
        have hfk := hfz (K / 8)
        have hcb := (m.getD (K / 8) 0).toNat_lt
        have HK : Hid (K = T + i) := hKn
        have HKL : Hid (K < 8 * L8) := by apply hide; omega
        clear hKn q2 q3 hfz
        by_cases hbit : E / 2 ^ i % 2 = 1
        · have hbb : (bits .and .u32 ((E : Int) / 2 ^ i) 1 == 1) = true := by
            rw [and_bit E i hE, hbit]; rfl
          have HBT : Hid _ := hbit
          clear hbit
          go_wp2
          go_roundg (32 - (i + 1))
          case measure => exact Nat.lt_of_lt_of_le (Nat.sub_lt_sub_left hlt (Nat.lt_succ_self i)) hkx
          case rel =>
            refine ⟨i + 1, m.set (K / 8) (Wi.Four.flip (m.getD (K / 8) 0) (K % 8)), by go_num, hlt, Nat.le_refl _, by apply hide; rw [List.length_set]; exact HML.out, ?_, ?_, ?_⟩
            · apply hide
              rw [Wi.Four.num_flip m K (by rw [HML.out]; exact HKL.out), HNU.out, Wi.bits_more E i T HBT.out, Nat.xor_assoc, HK.out]
            · have := turn_own (K := K) HOm.out
              first | exact this | simpa using this
            · exact HFm.out.trans (Fr.of_grown grown_setCell fun j hj => .inl (by cases hj; rfl)) fun _ _ h => h
        · have hbb : (bits .and .u32 ((E : Int) / 2 ^ i) 1 == 1) = false := by
            rw [and_bit E i hE]; rw [beq_eq_false_iff_ne]; omega
          have HBT : Hid (E / 2 ^ i % 2 = 0) := by apply hide; omega
          clear hbit
          go_wp2
          go_roundg (32 - (i + 1))
          case measure => exact Nat.lt_of_lt_of_le (Nat.sub_lt_sub_left hlt (Nat.lt_succ_self i)) hkx
          case rel => exact ⟨i + 1, m, by go_num, hlt, Nat.le_refl _, HML, by apply hide; rw [Wi.bits_same E i HBT.out]; exact HNU.out, HOm, HFm⟩
      · have hltz : ¬ (i : Int) < 32 := by omega
        obtain rfl : i = 32 := by omega
        rename World => w7
        have HNU2 : Hid (Wi.Four.num m = Wi.Four.num (Wi.framed l) ^^^ (E * 2 ^ T)) := by
          apply hide
          have := HNU.out
          rwa [Nat.mod_eq_of_lt (by simpa using hE)] at this
        have H7 : Hid (LS w w7 p d F5 2008 (onS l)) := by
          have hf := HFm.out
          exact ⟨H6.out.dk.other hf fun i hi hq => HGF.out.1 (hq ▸ hi), H6.out.sr.fr hf fun q => HGF.out.2 q.symm, H6.out.np, H6.out.F0, H6.out.p0, H6.out.bel.trans (hf.below H6.out.bel.size fun i hi => by have e : i = g := hi; rw [e]; exact Nat.le_trans H6b.out HG.out.1)⟩
        clear HNU HFm hlt hi hkx
        by_cases hE0 : E = 0
        · have HMF : Hid (m = Wi.framed l) := by
            apply hide
            refine Wi.Four.num_inj _ _ (by rw [HML.out, HFL.out]) ?_
            rw [HNU2.out, hE0]
            simp
          obtain rfl := hE0
          by_cases hm0 : mo.length = 0
          · have hm0z : (mo.length : Int) = 0 := by omega
            have kAb2 := abs_any w7 ls HLS.out.1 HLS.out.2
            have hab2 := absN_lt HLS.out.1 HLS.out.2
            obtain ⟨A2, hA2⟩ : ∃ A, A = absN ls := ⟨_, rfl⟩
            rw [← hA2] at kAb2 hab2
            obtain ⟨K, hK, hKb⟩ : ∃ K : Nat, (L8 : Int) - 1 - (A2 : Int) % (L8 : Int) = (K : Int) ∧ K < L8 := by
              have e2 := Int.emod_nonneg (A2 : Int) (show (L8 : Int) ≠ 0 by omega)
              have e3 := Int.emod_lt_of_pos (A2 : Int) (show 0 < (L8 : Int) by omega)
              exact ⟨((L8 : Int) - 1 - (A2 : Int) % (L8 : Int)).toNat, by omega, by omega⟩
            clear hA2
            go_wp2_with fail
            refine kAb2.mono ?_
            rintro e wq2 ⟨rfl, rfl⟩
            clear kAb2
            have hK0 : (0 : Int) ≤ (K : Int) := by omega
            have hK1 : (K : Int) ≤ (cp : Int) := by omega
            have hKc : K ≤ cp := by omega
            rw [← hK] at hK0 hK1
            have HKD : Hid (K < L8) := hKb
            go_wp2_with fail
            have H8 : Hid (LS w wq2 p d F5 2008 (onS l)) := H7
            have HRD : Hid (Reads wq2 (.slice (some ⟨g, 0, none⟩) K cp) ((Wi.framed l).take K)) := by
              apply hide
              have := HOm.out.reads
              rw [HMF.out] at this
              exact this.take K (by rw [HFL.out]; omega) (by simp)
            have HRB : Hid (∀ ad n c, Value.slice (some ⟨g, 0, none⟩) K cp = .slice (some ad) n c → F5 ad.block → False) := fun ad n c e hF => by
              simp only [Value.slice.injEq, Option.some.injEq] at e
              obtain ⟨rfl, -, -⟩ := e
              exact HGF.out.1 hF
            have HUN : Hid (Wi.unf ((Wi.framed l).take K) ≠ 0) := unf_cut l K HLM.out (by have := HL8.out; omega)
            have HML2 : Hid (((Wi.framed l).take K).length ≤ 140737488353240) := by apply hide; rw [List.length_take, HFL.out]; omega
            have kA := append_any wq2 d 2008 F5 (onS l) [98, 46, 98] (.slice (some ⟨g, 0, none⟩) K cp) ((Wi.framed l).take K) H8.out.dk (by simp [maxLen]) (fun w' hf => HRD.out.fr (fun ad n c e hF => HRB.out ad n c e hF) hf) (by have := HML2.out; omega) (by show 3 < 1000000; omega)
            rw [sp_app] at kA
            refine kA.mono ?_
            rintro e w9 ⟨rfl, ⟨F8, d8, hF8⟩, fr8⟩
            obtain ⟨⟨F9, h9, -⟩, -⟩ := H8.out.mv ⟨⟨F8, d8, hF8⟩, fr8⟩
            have H9 : Hid (LS w w9 p d F9 (2008 + ((Wi.framed l).take K).length) (spS l ((Wi.framed l).take K))) := h9
            have kG := get_ls w w9 p d _ F9 (spS l ((Wi.framed l).take K)) [98] h9 (by simp [maxLen]) (by have := HML2.out; omega)
            rw [sp_b l ((Wi.framed l).take K) HUN.out] at kG
            clear kA d8 hF8 fr8 h9 H8
            go_wp2_with fail
            refine kG.mono ?_
            rintro e wa ⟨v9, rfl, o9, b9⟩
            obtain ⟨ya, yc, hy9, -⟩ := o9.reads
            replace hy9 : v9 = .slice ya 0 yc := hy9
            subst hy9
            have Ha : Hid (LS w wa p d F9 (2008 + ((Wi.framed l).take K).length) (spS l ((Wi.framed l).take K))) := H9.out.below b9
            have kH := get_ls w wa p d _ F9 (spS l ((Wi.framed l).take K)) [97] Ha.out (by simp [maxLen]) (by have := HML2.out; omega)
            rw [sp_a l ((Wi.framed l).take K) HLM.out] at kH
            clear kG o9 b9 H9
            go_wp2_with fail
            refine kH.mono ?_
            rintro e wb ⟨vb, rfl, ob, bb⟩
            have Hb : Hid (Below w.heap.size w wb) := Ha.out.bel.trans (bb.mono Ha.out.bel.size)
            have cvb := conv_string wb _ _ ob.reads
            have cvl := conv_string wb _ _ (HR.out.below Hb.out)
            obtain ⟨za, zc, hzb, -⟩ := ob.reads
            subst hzb
            clear kH ob bb Ha
            go_wp2_with fail
            go_ret
            exact ⟨by first | rfl | simp, Hb.out⟩
          · have hm0z : ¬ (mo.length : Int) = 0 := by omega
            have hm1z : (0 : Int) < (mo.length : Int) := by omega
            have HRO : Hid (RdsK 1 w7 (.slice ma mo.length mc) mo.length (bv mo)) := (HMO.out.below H7.out.bel).k
            have HO7 : Hid (w7.ownsRow w5.heap.size 5 1 (.slice (some ⟨g, 0, none⟩) L8 cp) L8 (bv (Wi.framed l))) := by
              apply hide
              have := HOm.out
              rw [HMF.out] at this
              unfold Owns at this
              rw [HFL.out] at this
              exact this
            have hs7 : w5.heap.size ≤ w7.heap.size := by
              have h1 := (own_lt HO7.out g rfl)
              omega
            have HQ : Hid (L8 + mo.length ≤ maxLen ∧ ((L8 + mo.length) + (L8 + mo.length) / 4 + 192) * 1 ≤ 281474976710656) := by apply hide; unfold maxLen; omega
            go_wp2_with (first | (at_builtin; refine wpList_appF rfl _ _ 33 rfl w5.heap.size 5 i0 (.int .u8 0) 1 1 Try.underlying33 hi0 hz0 hz1 hz2 rfl (by decide) (.slice (some ⟨g, 0, none⟩) L8 cp) L8 (bv (Wi.framed l)) rfl HO7.out (.slice ma mo.length mc) mo.length (bv mo) rfl HRO.out (bv_one mo) HQ.out.1 HQ.out.2 hs7 ?_; intro v8 w8 o8 g8 p8; have HO8 : Hid (w8.ownsRow w5.heap.size 5 1 v8 (L8 + mo.length) (bv (Wi.framed l) ++ bv mo)) := o8; have HG8 : Hid (w7.grownBy w8 (some g)) := g8; have HP8 : Hid (v8.ownBlock = some g ∨ ∃ g, v8.ownBlock = some g ∧ w7.heap.size ≤ g) := p8; obtain ⟨xa8, xc8, hx8⟩ := own_sl o8; subst hx8; clear o8 g8 p8))
            have H8 : Hid (LS w w8 p d F5 2008 (onS l)) := by
              have hf : Fr (fun i => i = g) w7 w8 := Fr.of_grown HG8.out fun j hj => .inl (by injection hj with hj; exact hj.symm)
              exact ⟨H7.out.dk.other hf fun i hi hq => HGF.out.1 (hq ▸ hi), H7.out.sr.fr hf fun q => HGF.out.2 q.symm, H7.out.np, H7.out.F0, H7.out.p0, H7.out.bel.trans (hf.below H7.out.bel.size fun i hi => by have e : i = g := hi; rw [e]; exact Nat.le_trans H6b.out HG.out.1)⟩
            have HRD : Hid (Reads w8 (.slice xa8 (L8 + mo.length) xc8) (Wi.framed l ++ mo)) := by
              apply hide
              have : Owns w8 w5.heap.size (.slice xa8 (L8 + mo.length) xc8) (Wi.framed l ++ mo) := by
                unfold Owns
                rw [bv_append, List.length_append, HFL.out]
                exact HO8.out
              exact this.reads
            have HRB : Hid (∀ ad n c, Value.slice xa8 (L8 + mo.length) xc8 = .slice (some ad) n c → F5 ad.block → False) := fun ad n c e hF => by
              have e1 : Value.ownBlock (.slice xa8 (L8 + mo.length) xc8) = some ad.block := by rw [e]; rfl
              rcases HP8.out with q | ⟨g2, q, hg2⟩
              · rw [e1] at q
                injection q with q
                exact HGF.out.1 (q ▸ hF)
              · rw [e1] at q
                injection q with q
                have := H7.out.dk.lt _ hF
                omega
            have HUN : Hid (Wi.unf (Wi.framed l ++ mo) ≠ 0) := unf_more l mo HLM.out (by omega)
            have HML2 : Hid ((Wi.framed l ++ mo).length ≤ 140737488353240) := by apply hide; rw [List.length_append, HFL.out]; omega
            have kA := append_any w8 d 2008 F5 (onS l) [98, 46, 98] (.slice xa8 (L8 + mo.length) xc8) (Wi.framed l ++ mo) H8.out.dk (by simp [maxLen]) (fun w' hf => HRD.out.fr (fun ad n c e hF => HRB.out ad n c e hF) hf) (by have := HML2.out; omega) (by show 3 < 1000000; omega)
            rw [sp_app] at kA
            go_wp2_with fail
            refine kA.mono ?_
            rintro e w9 ⟨rfl, ⟨F8, d8, hF8⟩, fr8⟩
            obtain ⟨⟨F9, h9, -⟩, -⟩ := H8.out.mv ⟨⟨F8, d8, hF8⟩, fr8⟩
            have H9 : Hid (LS w w9 p d F9 (2008 + (Wi.framed l ++ mo).length) (spS l (Wi.framed l ++ mo))) := h9
            have kG := get_ls w w9 p d _ F9 (spS l (Wi.framed l ++ mo)) [98] h9 (by simp [maxLen]) (by have := HML2.out; omega)
            rw [sp_b l (Wi.framed l ++ mo) HUN.out] at kG
            clear kA d8 hF8 fr8 h9 H8
            go_wp2_with fail
            refine kG.mono ?_
            rintro e wa ⟨v9, rfl, o9, b9⟩
            obtain ⟨ya, yc, hy9, -⟩ := o9.reads
            replace hy9 : v9 = .slice ya 0 yc := hy9
            subst hy9
            have Ha : Hid (LS w wa p d F9 (2008 + (Wi.framed l ++ mo).length) (spS l (Wi.framed l ++ mo))) := H9.out.below b9
            have kH := get_ls w wa p d _ F9 (spS l (Wi.framed l ++ mo)) [97] Ha.out (by simp [maxLen]) (by have := HML2.out; omega)
            rw [sp_a l (Wi.framed l ++ mo) HLM.out] at kH
            clear kG o9 b9 H9
            go_wp2_with fail
            refine kH.mono ?_
            rintro e wb ⟨vb, rfl, ob, bb⟩
            have Hb : Hid (Below w.heap.size w wb) := Ha.out.bel.trans (bb.mono Ha.out.bel.size)
            have cvb := conv_string wb _ _ ob.reads
            have cvl := conv_string wb _ _ (HR.out.below Hb.out)
            obtain ⟨za, zc, hzb, -⟩ := ob.reads
            subst hzb
            clear kH ob bb Ha
            go_wp2_with fail
            go_ret
            exact ⟨by first | rfl | simp, Hb.out⟩
        · have hEz : ((E : Int) == 0) = false := by rw [beq_eq_false_iff_ne]; omega
          have hEz2 : ((E : Int) != 0) = true := by rw [bne_iff_ne]; omega
          have hEz3 : ¬ (E : Int) = 0 := by omega
          have H8 : Hid (LS w w7 p d F5 2008 (onS l)) := H7
          have HRD : Hid (Reads w7 (.slice (some ⟨g, 0, none⟩) L8 cp) m) := HOm.out.reads
          have HRB : Hid (∀ ad n c, Value.slice (some ⟨g, 0, none⟩) L8 cp = .slice (some ad) n c → F5 ad.block → False) := fun ad n c e hF => by
            simp only [Value.slice.injEq, Option.some.injEq] at e
            obtain ⟨rfl, -, -⟩ := e
            exact HGF.out.1 hF
          have HUN : Hid (Wi.unf m ≠ 0) := Wi.unf_turned l m E T HLM.out (by rw [HML.out, HFL.out]) hE hE0 (by rw [HFL.out]; exact hTb) HNU2.out
          have HML2 : Hid (m.length ≤ 140737488353240) := by apply hide; rw [HML.out]; omega
          have kA := append_any w7 d 2008 F5 (onS l) [98, 46, 98] (.slice (some ⟨g, 0, none⟩) L8 cp) m H8.out.dk (by simp [maxLen]) (fun w' hf => HRD.out.fr (fun ad n c e hF => HRB.out ad n c e hF) hf) (by have := HML2.out; omega) (by show 3 < 1000000; omega)
          rw [sp_app] at kA
          go_wp2_with fail
          refine kA.mono ?_
          rintro e w9 ⟨rfl, ⟨F8, d8, hF8⟩, fr8⟩
          obtain ⟨⟨F9, h9, -⟩, -⟩ := H8.out.mv ⟨⟨F8, d8, hF8⟩, fr8⟩
          have H9 : Hid (LS w w9 p d F9 (2008 + m.length) (spS l m)) := h9
          have kG := get_ls w w9 p d _ F9 (spS l m) [98] h9 (by simp [maxLen]) (by have := HML2.out; omega)
          rw [sp_b l m HUN.out] at kG
          clear kA d8 hF8 fr8 h9 H8
          go_wp2_with fail
          refine kG.mono ?_
          rintro e wa ⟨v9, rfl, o9, b9⟩
          obtain ⟨ya, yc, hy9, -⟩ := o9.reads
          replace hy9 : v9 = .slice ya 0 yc := hy9
          subst hy9
          have Ha : Hid (LS w wa p d F9 (2008 + m.length) (spS l m)) := H9.out.below b9
          have kH := get_ls w wa p d _ F9 (spS l m) [97] Ha.out (by simp [maxLen]) (by have := HML2.out; omega)
          rw [sp_a l m HLM.out] at kH
          clear kG o9 b9 H9
          go_wp2_with fail
          refine kH.mono ?_
          rintro e wb ⟨vb, rfl, ob, bb⟩
          have Hb : Hid (Below w.heap.size w wb) := Ha.out.bel.trans (bb.mono Ha.out.bel.size)
          have cvb := conv_string wb _ _ ob.reads
          have cvl := conv_string wb _ _ (HR.out.below Hb.out)
          obtain ⟨za, zc, hzb, -⟩ := ob.reads
          subst hzb
          clear kH ob bb Ha
          go_wp2_with fail
          go_ret
          exact ⟨by first | rfl | simp, Hb.out⟩
end Go.Proofs.Ythegdhbmfojdaaa
