/- The walk of DiskFull. -/
import Derived.Test.YtdcoeebpknipdaaFulM
namespace Go.Proofs.Ytdcoeebpknipdaa
open Go.RowKit Go.Maps

/-- A byte of an owned row is written. -/
theorem owns_set {w : World} {base g n c : Nat} {l : Str} (h : Owns w base (.slice (some ⟨g, 0, none⟩) n c) l) (i : Nat) (b : UInt8) : Owns (w.setCell ⟨g, i, none⟩ (.int .u8 (b.toNat : Int))) base (.slice (some ⟨g, 0, none⟩) n c) (l.set i b) := by
  have hlen : (l.set i b).length = l.length := by simp
  refine ⟨by simp [bv_length], ?_⟩
  rw [hlen]
  rcases h.2 with ⟨h1, _⟩ | ⟨g', cap, cur, h1, h2, h3, h4, h5, h6, h7⟩
  · cases h1
  · right
    injection h1 with e1 e2 e3
    injection e1 with e1
    injection e1 with e1
    subst e1 e2 e3
    refine ⟨g, c, cur.setIfInBounds i (.int .u8 (b.toNat : Int)), rfl, h2, heap_setCell_same w g i _ 5 _ h3, h4, h5, by simpa using h6, ?_⟩
    have e : bv (l.set i b) = (bv l).set i (.int .u8 (b.toNat : Int)) := by simp [bv, List.map_set]
    rw [e, ← h7, Array.toList_setIfInBounds, List.take_set]
theorem owns_g {w : World} {base : Nat} {v : Value} {l : Str} (h : Owns w base v l) (h0 : 0 < l.length) : ∃ g c, v = .slice (some ⟨g, 0, none⟩) l.length c ∧ ∀ i, w.frozen? ⟨g, i, none⟩ = false := by
  rcases h.2 with ⟨_, h1⟩ | ⟨g, cap, cur, h1, h2, h3, _⟩
  · omega
  · exact ⟨g, cap, h1, fun i => BxA.free (t := 5) (cs := cur) h3 i⟩
theorem flip_in : ∀ z < 256, 0 ≤ bits .xor .u8 ((z : Nat) : Int) 255 ∧ bits .xor .u8 ((z : Nat) : Int) 255 < 256 := by decide +kernel
theorem flip_ex (x : UInt8) : ∃ c : UInt8, bits .xor .u8 (x.toNat : Int) 255 = (c.toNat : Int) := by
  obtain ⟨h1, h2⟩ := flip_in x.toNat x.toNat_lt
  refine ⟨UInt8.ofNat (bits .xor .u8 (x.toNat : Int) 255).toNat, ?_⟩
  rw [UInt8.toNat_ofNat']
  omega
/-- The disk stays while a row of others is written. -/
theorem LD.flip {w0 w w' : World} {d N base : Nat} {F : Nat → Prop} {s : St} {v : Value} {l : Str} (h : LD w0 w d F N s) (ho : Owns w base v l) (hb : w0.heap.size ≤ base) (ha : ∀ r, v.ownBlock = some r → ¬ F r) (hf : Fr (fun i => v.ownBlock = some i) w w') : LD w0 w' d F N s :=
  ⟨h.dk.other hf fun i hi hr => ha i hr hi, h.F0, h.bel.trans (hf.below h.bel.size fun i hi => Nat.le_trans hb (own_lt ho i hi).1)⟩
set_option maxRecDepth 100000 in
set_option maxHeartbeats 3200000 in
theorem full_walk (w : World) (wh : Int) (hw1 : -9223372036854775808 ≤ wh) (hw2 : wh ≤ 9223372036854775807) (v : Value) (l : Str) (hr : Reads w v l) (hl : l.length ≤ 140737488355328) :
    Calls Try.prog 9 #[.int .i64 wh, v] w fun e w' => e = .returned (.bool true) ∧ Below w.heap.size w w' := by
  obtain ⟨i0, hi0, hz0, hz1, hz2⟩ := info_parts Try.info5
  have HR : Hid (Reads w v l) := hr
  obtain ⟨va, vc, rfl⟩ : ∃ a c, v = .slice a l.length c := by obtain ⟨a, c, e, _⟩ := hr; exact ⟨_, _, e⟩
  have HWH : Hid _ := And.intro hw1 hw2
  clear hr hw1 hw2
  go_enter Try.func9, Try.ntmps9
  go_wp2_with fail
  refine (awake_any w).mono ?_
  rintro e w1 ⟨rfl, b1⟩
  have kN := new_ld w w1 b1
  clear b1
  go_wp2_with fail
  refine kN.mono ?_
  rintro e w2 ⟨rfl, h2⟩
  obtain ⟨d, hd⟩ : ∃ d, d = w1.heap.size := ⟨_, rfl⟩
  rw [← hd] at h2
  rw [← hd]
  have H2 : Hid (LD w w2 d (fun i => i = d) 0 (stK 0)) := h2
  clear h2 hd kN
  go_wp2_with fail
  go_loopg [7] 1000 (fun kx v7 wr => ∃ (i : Nat) (F : Nat → Prop), v7 = .int .i64 (i : Int) ∧ i ≤ 1000 ∧ 1000 - i ≤ kx ∧ Hid (LD w wr d F 0 (stK i)))
  case atStart => exact ⟨0, _, rfl, by omega, Nat.le_refl _, H2⟩
  case round =>
    obtain ⟨i, F, rfl, hi, hkx, HL⟩ := hrel
    clear H2
    by_cases hlt : i < 1000
    · have hltz : (i : Int) < 1000 := by omega
      have kNu := number_any wr i hlt
      obtain ⟨A, hA⟩ : ∃ A, A = numB i := ⟨_, rfl⟩
      obtain ⟨B, hB⟩ : ∃ B, B = fnm i := ⟨_, rfl⟩
      have hsa : (Op.stringOp .add ⟨#[102]⟩ ⟨A.toArray⟩).run Try.prog wr = .ok (.string ⟨B.toArray⟩) wr := by
        have := run_string_add_lists (P := Try.prog) wr [102] A (by simp) (by have := numB_len i; rw [← hA] at this; omega)
        rw [hB]
        unfold fnm
        rw [← hA]
        exact this
      have kA := append_ld w wr d 0 F (stK i) (fnm i) (.slice none 0 0) [] HL.out (by have := numB_len i; show (numB i).length + 1 ≤ maxLen; unfold maxLen; omega) (Reads.nil _) (fun ad n c e => by cases e) (by simp) (by show i < 1000000; omega)
      rw [full_step hlt, ← hB] at kA
      rw [← hA] at kNu
      clear hA hB
      go_wp2_with fail
      refine kNu.mono ?_
      rintro e wq ⟨rfl, rfl⟩
      go_wp2_with fail
      refine kA.mono ?_
      rintro e w3 ⟨rfl, F3, h3, -, -⟩
      have H3 : Hid (LD w w3 d F3 0 (stK (i + 1))) := h3
      clear kA kNu h3 hsa
      go_wp2_with fail
      go_roundg (1000 - (i + 1))
      case measure => omega
      case rel => exact ⟨i + 1, F3, by go_num, by omega, Nat.le_refl _, H3⟩
    · have hltz : ¬ (i : Int) < 1000 := by omega
      have HM : Hid (i = 1000) := by apply hide; omega
      obtain ⟨K, hK⟩ : ∃ K, K = absN wh % 1000 := ⟨_, rfl⟩
      have hK1 : K < 1000 := by omega
      have hK2 : (absN wh : Int) % 1000 = (K : Int) := by omega
      have kAb := abs_any wr wh HWH.out.1 HWH.out.2
      have hab := absN_lt HWH.out.1 HWH.out.2
      have kNu := number_any wr K hK1
      obtain ⟨A, hA⟩ : ∃ A, A = numB K := ⟨_, rfl⟩
      obtain ⟨B, hB⟩ : ∃ B, B = fnm K := ⟨_, rfl⟩
      have hsa : (Op.stringOp .add ⟨#[102]⟩ ⟨A.toArray⟩).run Try.prog wr = .ok (.string ⟨B.toArray⟩) wr := by
        have := run_string_add_lists (P := Try.prog) wr [102] A (by simp) (by have := numB_len K; rw [← hA] at this; omega)
        rw [hB]
        unfold fnm
        rw [← hA]
        exact this
      have kG := append_ld w wr d 0 F (stK i) [103] (.slice none 0 0) [] HL.out (by simp [maxLen]) (Reads.nil _) (fun ad n c e => by cases e) (by simp) (by show i < 1000000; omega)
      rw [full_g HM.out] at kG
      rw [← hA] at kNu
      have HB : Hid (B = fnm K) := hB
      have hBl : B.length ≤ 4 := by rw [hB]; have := numB_len K; show (numB K).length + 1 ≤ 4; omega
      clear hA hB hK
      go_wp2_with fail
      refine kAb.mono ?_
      rintro e wq ⟨rfl, rfl⟩
      go_wp2_with fail
      refine kNu.mono ?_
      rintro e wq ⟨rfl, rfl⟩
      clear kAb kNu
      go_wp2_with fail
      refine kG.mono ?_
      rintro e w3 ⟨rfl, F3, h3, -, -⟩
      have H3 : Hid (LD w w3 d F3 0 (stK i)) := h3
      have hr3 : RdsK 1 w3 (.slice va l.length vc) l.length (bv l) := (HR.out.below h3.bel).k
      have HR3 : Hid _ := hr3
      clear kG h3 hr3 hsa HL
      go_wp2_with (first | (at_builtin; refine wpList_appF rfl _ _ 29 rfl w3.heap.size 5 i0 (.int .u8 0) 1 1 Try.underlying29 hi0 hz0 hz1 hz2 rfl (by decide) (.slice none 0 0) 0 [] rfl ⟨rfl, .inl ⟨rfl, rfl⟩⟩ (.slice va l.length vc) l.length (bv l) rfl HR3.out (bv_one l) (by unfold maxLen; omega) (by omega) (Nat.le_refl _) ?_; intro v4 w4 o4 g4 _; have ho4 : Owns w4 w3.heap.size v4 l := (by rw [Nat.zero_add, List.nil_append] at o4; exact o4); have H4 : Hid (LD w w4 d F3 0 (stK i)) := H3.out.below ⟨g4.os, g4.tape, g4.output, g4.size, fun i hi => g4.block i hi (by simp [Value.ownBlock])⟩; have HO4 : Hid (Owns w4 w3.heap.size v4 l) := ho4; obtain ⟨xa, xc, hx4⟩ := ho4.shape l.length rfl; subst hx4; clear ho4 o4 g4))
      have hlt3 := H3.out.dk.lt
      have kA := append_ld w w4 d 0 F3 (stK i) (fnm K) (.slice xa l.length xc) l H4.out (by rw [← HB.out]; unfold maxLen; omega) HO4.out.reads (fun ad n c e hf => by
        have h1 := hlt3 _ hf
        have h2 := (own_lt HO4.out ad.block (by rw [e]; rfl)).1
        omega) (by omega) (by show i < 1000000; omega)
      rw [full_k HM.out hK1, ← HB.out] at kA
      have HLT3 : Hid _ := hlt3
      clear hlt3
      go_wp2_with fail
      refine kA.mono ?_
      rintro e w5 ⟨rfl, F5, h5, hF5, fr5⟩
      have H5 : Hid (LD w w5 d F5 (0 + l.length) (s2 i K l)) := h5
      have HO5 : Hid (Owns w5 w3.heap.size (.slice xa l.length xc) l) := owns_block HO4.out fun r hr => fr5.block r (own_lt HO4.out r hr).2 fun hf => by
        have h1 := HLT3.out _ hf
        have h2 := (own_lt HO4.out r hr).1
        omega
      have HAP : Hid (∀ r, Value.ownBlock (.slice xa l.length xc) = some r → ¬ F5 r) := fun r hr hf => by
        have h2 := own_lt HO4.out r hr
        rcases hF5 r hf with h | h
        · have h1 := HLT3.out _ h
          omega
        · omega
      clear kA h5 hF5 fr5
      go_wp2_with fail
      go_loopg [12] l.length (fun kx vi wr => ∃ (k : Nat) (m : Str), vi = .int .i64 (k : Int) ∧ k ≤ l.length ∧ l.length - k ≤ kx ∧ Hid (m.length = l.length) ∧ Hid (Owns wr w3.heap.size (.slice xa l.length xc) m) ∧ Hid (Fr (fun i => Value.ownBlock (.slice xa l.length xc) = some i) w5 wr))
      case atStart => exact ⟨0, l, rfl, by omega, Nat.le_refl _, rfl, HO5, Fr.refl _ _⟩
      case round =>
        obtain ⟨k, m, rfl, hk, hkx2, HML, HOm, HFm⟩ := hrel
        by_cases hkl : k < l.length
        · have hklz : (k : Int) < (l.length : Int) := by omega
          obtain ⟨g, c, hV, hfz⟩ := owns_g HOm.out (by rw [HML.out]; omega)
          injection hV with e1 e2 e3
          subst e1
          have hck : wr.cell? ⟨g, k, none⟩ = some (.int .u8 ((m.getD k 0).toNat : Int)) := by
            have := World.ownsRow.cells HOm.out rfl k _ (bv_get m k (by rw [HML.out]; exact hkl))
            rw [Addr.add_lit] at this
            simpa using this
          have hfk := hfz k
          obtain ⟨z, hz⟩ : ∃ z, z = m.getD k 0 := ⟨_, rfl⟩
          rw [← hz] at hck
          obtain ⟨y, hy⟩ := flip_ex z
          have HY : Hid _ := hy
          clear hz hfz e2 e3 hy
          go_wp2_with fail
          go_roundg (l.length - (k + 1))
          case measure => omega
          case rel =>
            refine ⟨k + 1, m.set k y, by go_num, by omega, Nat.le_refl _, by apply hide; rw [List.length_set]; exact HML.out, ?_, ?_⟩
            · apply hide
              rw [HY.out]
              exact owns_set HOm.out k y
            · exact HFm.out.trans (Fr.of_grown grown_setCell fun j hj => .inl (by cases hj; rfl)) fun _ _ h => h
        · have hklz : ¬ (k : Int) < (l.length : Int) := by omega
          rename World => wr6
          have h6 := H5.out.flip HO5.out (Nat.le_trans H3.out.bel.size (Nat.le_refl _)) HAP.out HFm.out
          have kR := read_any wr6 d (0 + l.length) F5 (s2 i K l) (fnm K) h6.dk (by rw [← HB.out]; unfold maxLen; omega) (by omega)
          rw [(full_read HM.out hK1 l).1, (full_read HM.out hK1 l).2, ← HB.out] at kR
          have H6 : Hid _ := h6
          clear h6 hkl HML HFm HOm HO5 HAP H5
          go_wp2_with fail
          refine kR.mono ?_
          rintro e w8 ⟨v8, rfl, o8, b8⟩
          have h8 := H6.out.below b8
          have H8 : Hid (LD w w8 d F5 (0 + l.length) (s2 i K l)) := h8
          have HO8 : Hid (Owns w8 wr6.heap.size v8 l) := o8
          obtain ⟨za, zc, hz8⟩ := o8.shape l.length rfl
          subst hz8
          have hc8 := conv_string w8 _ _ o8.reads
          have HAX : Hid (∀ r, Value.ownBlock (.slice za l.length zc) = some r → ¬ F5 r) := fun r hr hf => by
            have h1 := H6.out.dk.lt r hf
            have h2 := (own_lt HO8.out r hr).1
            omega
          clear kR o8 b8 h8
          go_wp2_with fail
          clear hc8
          go_loopg [16] l.length (fun kx vi wr => ∃ (k : Nat) (m : Str), vi = .int .i64 (k : Int) ∧ k ≤ l.length ∧ l.length - k ≤ kx ∧ Hid (m.length = l.length) ∧ Hid (Owns wr wr6.heap.size (.slice za l.length zc) m) ∧ Hid (Fr (fun i => Value.ownBlock (.slice za l.length zc) = some i) w8 wr))
          case atStart => exact ⟨0, l, rfl, by omega, Nat.le_refl _, rfl, HO8, Fr.refl _ _⟩
          case round =>
            obtain ⟨k, m, rfl, hk, hkx2, HML, HOm, HFm⟩ := hrel
            by_cases hkl : k < l.length
            · have hklz : (k : Int) < (l.length : Int) := by omega
              obtain ⟨g, c, hV, hfz⟩ := owns_g HOm.out (by rw [HML.out]; omega)
              injection hV with e1 e2 e3
              subst e1
              have hck : wr.cell? ⟨g, k, none⟩ = some (.int .u8 ((m.getD k 0).toNat : Int)) := by
                have := World.ownsRow.cells HOm.out rfl k _ (bv_get m k (by rw [HML.out]; exact hkl))
                rw [Addr.add_lit] at this
                simpa using this
              have hfk := hfz k
              obtain ⟨z, hz⟩ : ∃ z, z = m.getD k 0 := ⟨_, rfl⟩
              rw [← hz] at hck
              obtain ⟨y, hy⟩ := flip_ex z
              have HY : Hid _ := hy
              clear hz hfz e2 e3 hy
              go_wp2_with fail
              go_roundg (l.length - (k + 1))
              case measure => omega
              case rel =>
                refine ⟨k + 1, m.set k y, by go_num, by omega, Nat.le_refl _, by apply hide; rw [List.length_set]; exact HML.out, ?_, ?_⟩
                · apply hide
                  rw [HY.out]
                  exact owns_set HOm.out k y
                · exact HFm.out.trans (Fr.of_grown grown_setCell fun j hj => .inl (by cases hj; rfl)) fun _ _ h => h
            · have hklz : ¬ (k : Int) < (l.length : Int) := by omega
              have h9 := H8.out.flip HO8.out (Nat.le_trans H6.out.bel.size (Nat.le_refl _)) HAX.out HFm.out
              have kR2 := read_any wr d (0 + l.length) F5 (s2 i K l) (fnm K) h9.dk (by rw [← HB.out]; unfold maxLen; omega) (by omega)
              rw [(full_read HM.out hK1 l).1, (full_read HM.out hK1 l).2, ← HB.out] at kR2
              have H9 : Hid _ := h9
              clear h9 hkl HML HFm HOm
              go_wp2_with fail
              refine kR2.mono ?_
              rintro e w10 ⟨v10, rfl, o10, b10⟩
              have h10 := H9.out.below b10
              have kRm := remove_any w10 d (0 + l.length) F5 (s2 i K l) (fnm K) h10.dk (by rw [← HB.out]; unfold maxLen; omega) (by show i + 1 < 1000000; omega)
              rw [full_rem HM.out hK1 l, ← HB.out] at kRm
              have HG2 : Hid _ := full_g2 HM.out hK1 l h10.dk
              have HO10 : Hid (Owns w10 wr.heap.size v10 l) := o10
              have H10 : Hid _ := h10
              obtain ⟨ya, yc, hy10⟩ := o10.shape l.length rfl
              subst hy10
              have H9L : Hid (∀ i, F5 i → i < wr.heap.size) := H9.out.dk.lt
              clear kR2 o10 b10 h10
              go_wp2_with fail
              refine kRm.mono ?_
              rintro e w11 ⟨rfl, d11, fr11⟩
              have h11 := H10.out.mv d11 (fun _ h => .inl h) fr11
              have HR11 : Hid (Reads w11 (.slice ya l.length yc) l) := HO10.out.reads.fr (fun ad n c e hf => by
                have h1 := H9L.out _ hf
                have h2 := (own_lt HO10.out ad.block (by rw [e]; rfl)).1
                omega) fr11
              have kG1 := append_ld w w11 d (0 + l.length) F5 (s3 i K l) [103] (.slice none 0 0) [] h11 (by simp [maxLen]) (Reads.nil _) (fun ad n c e => by cases e) (by simp; omega) (by show i + 2 < 1000000; omega)
              rw [HG2.out.1] at kG1
              have H11 : Hid _ := h11
              have HYB : Hid (∀ ad n c, Value.slice ya l.length yc = .slice (some ad) n c → wr.heap.size ≤ ad.block ∧ ad.block < w11.heap.size) := fun ad n c e => by
                have h2 := own_lt HO10.out ad.block (by rw [e]; rfl)
                exact ⟨h2.1, Nat.lt_of_lt_of_le h2.2 fr11.size⟩
              clear kRm d11 fr11 h11
              go_wp2_with fail
              refine kG1.mono ?_
              rintro e w12 ⟨rfl, F12, h12, hF12, fr12⟩
              have HR12 : Hid (Reads w12 (.slice ya l.length yc) l) := HR11.out.fr (fun ad n c e hf => by
                have h1 := H9L.out _ hf
                have h2 := HYB.out ad n c e
                omega) fr12
              have kG2 := append_ld w w12 d (0 + l.length + 0) F12 (s4 i K l) (fnm K) (.slice none 0 0) [] h12 (by rw [← HB.out]; unfold maxLen; omega) (Reads.nil _) (fun ad n c e => by cases e) (by simp; omega) (by show i + 3 < 1000000; omega)
              rw [HG2.out.2, ← HB.out] at kG2
              have HF12 : Hid (∀ i, F12 i → i < wr.heap.size ∨ w11.heap.size ≤ i) := fun i hi => (hF12 i hi).imp (H9L.out i) id
              clear kG1 h12 hF12 fr12
              go_wp2_with fail
              refine kG2.mono ?_
              rintro e w13 ⟨rfl, F13, h13, -, fr13⟩
              have hr13 : Reads w13 (.slice ya l.length yc) l := HR12.out.fr (fun ad n c e hf => by
                have h1 := HF12.out _ hf
                have h2 := HYB.out ad n c e
                omega) fr13
              have hc1 := conv_string w13 _ _ hr13
              have hc2 := conv_string w13 _ _ (HR.out.below h13.bel)
              have H13 : Hid _ := h13
              clear kG2 h13 fr13 hr13
              go_wp2_with fail
              go_ret
              exact ⟨by simp, H13.out.bel⟩
theorem full_walk' (w : World) (wh : Int) (hw1 : -9223372036854775808 ≤ wh) (hw2 : wh ≤ 9223372036854775807) (v : Value) (l : Str) (hr : Reads w v l) (hl : l.length ≤ 140737488351232) :
    Calls Try.prog 9 #[.int .i64 wh, v] w fun e w' => e = .returned (.bool true) ∧ Below w.heap.size w w' := full_walk w wh hw1 hw2 v l hr (Nat.le_trans hl (by decide))
end Go.Proofs.Ytdcoeebpknipdaa
