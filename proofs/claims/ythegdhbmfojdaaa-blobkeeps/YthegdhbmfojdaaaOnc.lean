/- A blob never changes. -/
import Derived.Test.YthegdhbmfojdaaaOnM
import Derived.Test.YthegdhbmfojdaaaOpI
import Derived.Shelf.SlSortCmp.QuietGrown
import Derived.BigQuiet
namespace Go.Proofs.Ythegdhbmfojdaaa
open Go.RowKit Go.Maps Go.Sort
set_option linter.unusedVariables false

theorem owns_set {w : World} {base g n c : Nat} {l : Str} (h : Owns w base (.slice (some ⟨g, 0, none⟩) n c) l) (i : Nat) (b : UInt8) : Owns (w.setCell ⟨g, i, none⟩ (.int .u8 (b.toNat : Int))) base (.slice (some ⟨g, 0, none⟩) n c) (l.set i b) := by
  have hlen : (l.set i b).length = l.length := by simp
  refine ⟨by simp [bv_length], ?_⟩
  rw [hlen]
  rcases h.2 with ⟨h1, _⟩ | ⟨g', cap, cur, h1, h2, h3, h4, h5, h6, h7⟩
  · cases h1
  · right
    injection h1 with e1 e2 e3
    injection e1 with e1
    injection e1 with e1
    subst e1 e2 e3
    refine ⟨g, c, cur.setIfInBounds i (.int .u8 (b.toNat : Int)), rfl, h2, heap_setCell_same w g i _ 5 _ h3, h4, h5, by simpa using h6, ?_⟩
    have e : bv (l.set i b) = (bv l).set i (.int .u8 (b.toNat : Int)) := by simp [bv, List.map_set]
    rw [e, ← h7, Array.toList_setIfInBounds, List.take_set]
theorem owns_g {w : World} {base : Nat} {v : Value} {l : Str} (h : Owns w base v l) (h0 : 0 < l.length) : ∃ g c, v = .slice (some ⟨g, 0, none⟩) l.length c ∧ ∀ i, w.frozen? ⟨g, i, none⟩ = false := by
  rcases h.2 with ⟨_, h1⟩ | ⟨g, cap, cur, h1, h2, h3, _⟩
  · omega
  · exact ⟨g, cap, h1, fun i => BxA.free (t := 5) (cs := cur) h3 i⟩
theorem flip_in : ∀ z < 256, 0 ≤ bits .xor .u8 ((z : Nat) : Int) 255 ∧ bits .xor .u8 ((z : Nat) : Int) 255 < 256 := by decide +kernel
theorem flip_ex (x : UInt8) : ∃ c : UInt8, bits .xor .u8 (x.toNat : Int) 255 = (c.toNat : Int) := by
  obtain ⟨h1, h2⟩ := flip_in x.toNat x.toNat_lt
  refine ⟨UInt8.ofNat (bits .xor .u8 (x.toNat : Int) 255).toNat, ?_⟩
  rw [UInt8.toNat_ofNat']
  omega
theorem Reads.fra {w w' : World} {F : Nat → Prop} {u : Value} {b : Str} {n : Nat} (h : Reads w u b) (hc : ∀ ad k c, u = .slice (some ad) k c → 0 < b.length → ad.block < n) (hF : ∀ i, F i → n ≤ i) (hf : Fr F w w') : Reads w' u b := by
  obtain ⟨ao, cap, rfl, h1, h2, h3, h4⟩ := h
  refine ⟨ao, cap, rfl, h1, h2, h3, fun ad ha j u hj => ?_⟩
  have hl : 0 < b.length := by have := (List.getElem?_eq_some_iff.1 hj).1; rw [bv_length] at this; omega
  have hc4 := h4 ad ha j u hj
  have hb : (ad.add j).block = ad.block := by simp only [Addr.add]; split <;> rfl
  have hlt := hc ad _ _ (by rw [ha]) hl
  rw [cell_blk (hf.block _ (World.block_lt_of_cell? _ _ hc4) (by rw [hb]; intro hF'; have := hF _ hF'; omega)), hc4]
theorem Reads.blk {w : World} {u : Value} {b : Str} (h : Reads w u b) : ∀ ad k c, u = .slice (some ad) k c → 0 < b.length → ad.block < w.heap.size := by
  obtain ⟨ao, cap, rfl, h1, h2, h3, h4⟩ := h
  intro ad k c e hl
  cases e
  have := World.block_lt_of_cell? _ _ (h4 ad rfl 0 _ (bv_get b 0 hl))
  have hb : (ad.add 0).block = ad.block := by simp only [Addr.add]; split <;> rfl
  omega
theorem below_gr (w : World) (q : Nat) (os : Array Obj) : Below w.heap.size w (Go.Sort.grow (w.drewN q) os) :=
  ⟨rfl, rfl, rfl, by show _ ≤ ((w.drewN q).heap ++ os).size; rw [Array.size_append]; exact Nat.le_add_right _ _, fun i hi => by
    show ((w.drewN q).heap ++ os)[i]? = _
    rw [Array.getElem?_append_left (by exact hi)]
    rfl⟩
theorem cell_gro {w : World} {a : Addr} {v : Value} (h : w.cell? a = some v) (nq : Nat) (os : Array Obj) : (Go.Sort.grow (w.drewN nq) os).cell? a = some v := by
  rw [(below_gr w nq os).cell (World.block_lt_of_cell? _ _ h), h]
theorem flip1_in : ∀ z < 256, 0 ≤ bits .xor .u8 ((z : Nat) : Int) 1 ∧ bits .xor .u8 ((z : Nat) : Int) 1 < 256 := by decide +kernel
theorem flip1_ex (x : UInt8) : ∃ c : UInt8, bits .xor .u8 (x.toNat : Int) 1 = (c.toNat : Int) := by
  obtain ⟨h1, h2⟩ := flip1_in x.toNat x.toNat_lt
  refine ⟨UInt8.ofNat (bits .xor .u8 (x.toNat : Int) 1).toNat, ?_⟩
  rw [UInt8.toNat_ofNat']
  omega
/-- The store stays while a row of others is written. -/
theorem LS.flip {w0 w w' : World} {p d N base : Nat} {F : Nat → Prop} {s : St} {v : Value} {l : Str} (h : LS w0 w p d F N s) (ho : Owns w base v l) (hb : w0.heap.size ≤ base) (ha : ∀ r, v.ownBlock = some r → ¬ F r) (hp : v.ownBlock ≠ some p) (hf : Fr (fun i => v.ownBlock = some i) w w') : LS w0 w' p d F N s :=
  ⟨h.dk.other hf fun i hi hr => ha i hr hi, h.sr.fr hf hp, h.np, h.F0, h.p0, h.bel.trans (hf.below h.bel.size fun i hi => Nat.le_trans hb (own_lt ho i hi).1)⟩
set_option maxRecDepth 100000 in
set_option maxHeartbeats 6400000 in
theorem blobOnce_walk (w : World) (v : Value) (l : Str) (hr : Reads w v l) (hl : l.length ≤ 140737488351232) (v2 : Value) (ls : List (Value × Str)) (h2r : BsR w v2 ls) :
    Calls Try.prog 5 #[v, v2] w fun e w' => e = .returned (.bool true) ∧ Below w.heap.size w w' := by
  have mixed : Try.prog.follows .mixedOrders = true := by kernel_rfl
  obtain ⟨i0, hi0, hz0, hz1, hz2⟩ := info_parts Try.info5
  have HR : Hid (Reads w v l) := hr
  obtain ⟨va, vc, rfl⟩ : ∃ a c, v = .slice a l.length c := by obtain ⟨a, c, e, _⟩ := hr; exact ⟨_, _, e⟩
  have HOK : Hid (∀ x ∈ ls, Reads w x.1 x.2) := h2r.ok
  obtain ⟨va2, vc2, rfl, hvd1, hvd2, hcs2⟩ := h2r.ex
  obtain ⟨n, hn⟩ : ∃ n, n = ls.length := ⟨_, rfl⟩
  rw [← hn] at hvd1
  rw [← hn]
  have HCS : Hid (0 < ls.length → ∃ b off, va2 = some ⟨b, off, none⟩ ∧ ∀ i (hi : i < ls.length), w.cell? ⟨b, off + i, none⟩ = some (ls[i]).1) := hcs2
  have HN : Hid (n = ls.length) := hn
  unfold maxLen at hvd2
  clear h2r hn hcs2 hr
  go_enter Try.func5, Try.ntmps5
  go_wp2_with fail
  refine (awake_any w).mono ?_
  rintro e w1 ⟨rfl, b1⟩
  have HB1 : Hid (Below w.heap.size w w1) := b1
  clear b1
  go_wp2_with fail
  refine (new_fr w1).mono ?_
  rintro e w2 ⟨rfl, d2, b2⟩
  have kO := open_ls w w2 w1.heap.size (HB1.out.trans (b2.mono HB1.out.size)) d2 HB1.out.size
  obtain ⟨d, hd⟩ : ∃ d, d = w1.heap.size := ⟨_, rfl⟩
  rw [← hd] at kO
  rw [← hd]
  clear d2 b2 hd HB1
  go_wp2_with fail
  refine kO.mono ?_
  rintro e w3 ⟨p, rfl, h3⟩
  have H3 : Hid (LS w w3 p d (fun i => i = d) 0 st0) := h3
  clear kO h3
  by_cases hlong : 1048576 < l.length
  · have hlz : (1048576 : Int) < (l.length : Int) := by omega
    go_wp2_with fail
    go_ret
    exact ⟨by first | rfl | simp, H3.out.bel⟩
  · have hlz : ¬ (1048576 : Int) < (l.length : Int) := by omega
    have hl20 : l.length ≤ 1048576 := by omega
    have HL20 : Hid (l.length ≤ 1048576) := hl20
    have HR3 : Hid (RdsK 1 w3 (.slice va l.length vc) l.length (bv l)) := (HR.out.below H3.out.bel).k
    go_wp2_with (first | (at_builtin; refine wpList_appF rfl _ _ 33 rfl w3.heap.size 5 i0 (.int .u8 0) 1 1 Try.underlying33 hi0 hz0 hz1 hz2 rfl (by decide) (.slice none 0 0) 0 [] rfl ⟨rfl, .inl ⟨rfl, rfl⟩⟩ (.slice va l.length vc) l.length (bv l) rfl HR3.out (bv_one l) (by unfold maxLen; omega) (by omega) (Nat.le_refl _) ?_; intro v4 w4 o4 g4 _; have ho4 : Owns w4 w3.heap.size v4 l := (by rw [Nat.zero_add, List.nil_append] at o4; exact o4); have HG4 : Hid (w3.grownBy w4 none) := g4; have HO4 : Hid (Owns w4 w3.heap.size v4 l) := ho4; obtain ⟨xa, xc, hx4, -⟩ := ho4.reads; subst hx4; clear o4 g4 ho4))
    have HLT3 : Hid (d < w3.heap.size ∧ p < w3.heap.size) := ⟨H3.out.dk.lt d rfl, H3.out.plt⟩
    have H4 : Hid (LS w w4 p d (fun i => i = d) 0 st0) := H3.out.below ⟨HG4.out.os, HG4.out.tape, HG4.out.output, HG4.out.size, fun i hi => HG4.out.block i hi (by simp)⟩
    have kP := put_ls w w4 p d 0 (fun i => i = d) st0 [97] l (.slice xa l.length xc) H4.out (by simp [maxLen]) (fun w' hf => HO4.out.reads.fr (fun ad n c e hF => by
        have h1 : ad.block = d := hF
        have h2 := (own_lt HO4.out ad.block (by rw [e]; rfl)).1
        have h3 := HLT3.out.1
        omega) hf) (by omega) (by decide)
    rw [on1 l HL20.out] at kP
    go_wp2_with fail
    refine kP.mono ?_
    rintro e w5 ⟨rfl, ⟨F5, h5, hF5⟩, fr5⟩
    have H5 : Hid (LS w w5 p d F5 (0 + 1048584) (onS l)) := h5
    have HO5 : Hid (Owns w5 w3.heap.size (.slice xa l.length xc) l) := owns_block HO4.out fun r hr => fr5.block r (own_lt HO4.out r hr).2 fun hf => by
      have h1 : r = d := hf
      have h2 := (own_lt HO4.out r hr).1
      have h3 := HLT3.out.1
      omega
    have HAP : Hid (∀ r, Value.ownBlock (.slice xa l.length xc) = some r → ¬ F5 r) := fun r hr hf => by
      have h2 := own_lt HO4.out r hr
      have h3 := HLT3.out.1
      rcases hF5 r hf with h | h
      · have h1 : r = d := h
        omega
      · omega
    have HPP : Hid (Value.ownBlock (.slice xa l.length xc) ≠ some p) := fun q => by
      have h2 := (own_lt HO4.out p q).1
      have h3 := HLT3.out.2
      omega
    clear kP h5 hF5 fr5 hlong hlz
    go_wp2_with fail
    go_loopg [10] l.length (fun kx vi wr => ∃ (k : Nat) (m : Str), vi = .int .i64 (k : Int) ∧ k ≤ l.length ∧ l.length - k ≤ kx ∧ Hid (m.length = l.length) ∧ Hid (Owns wr w3.heap.size (.slice xa l.length xc) m) ∧ Hid (Fr (fun i => Value.ownBlock (.slice xa l.length xc) = some i) w5 wr))
    case atStart => exact ⟨0, l, rfl, by omega, Nat.le_refl _, rfl, HO5, Fr.refl _ _⟩
    case round =>
      obtain ⟨k, m, rfl, hk, hkx2, HML, HOm, HFm⟩ := hrel
      by_cases hkl : k < l.length
      · have hklz : (k : Int) < (l.length : Int) := by omega
        obtain ⟨g, c, hV, hfz⟩ := owns_g HOm.out (by rw [HML.out]; omega)
        injection hV with e1 e2 e3
        subst e1
        have hck : wr.cell? ⟨g, k, none⟩ = some (.int .u8 ((m.getD k 0).toNat : Int)) := by
          have := World.ownsRow.cells HOm.out rfl k _ (bv_get m k (by rw [HML.out]; exact hkl))
          rw [Addr.add_lit] at this
          simpa using this
        have hfk := hfz k
        obtain ⟨z, hz⟩ : ∃ z, z = m.getD k 0 := ⟨_, rfl⟩
        rw [← hz] at hck
        obtain ⟨y, hy⟩ := flip_ex z
        have HY : Hid _ := hy
        clear hz hfz e2 e3 hy
        go_wp2_with fail
        go_roundg (l.length - (k + 1))
        case measure => omega
        case rel =>
          refine ⟨k + 1, m.set k y, by go_num, by omega, Nat.le_refl _, by apply hide; rw [List.length_set]; exact HML.out, ?_, ?_⟩
          · apply hide
            rw [HY.out]
            exact owns_set HOm.out k y
          · exact HFm.out.trans (Fr.of_grown grown_setCell fun j hj => .inl (by cases hj; rfl)) fun _ _ h => h
      · have hklz : ¬ (k : Int) < (l.length : Int) := by omega
        rename World => w6
        have h6 := H5.out.flip HO5.out H3.out.bel.size HAP.out HPP.out HFm.out
        have H6 : Hid (LS w w6 p d F5 (0 + 1048584) (onS l)) := h6
        have kO : Calls Try.prog 17 #[.pointer (some ⟨d, 0, none⟩)] w6 fun e w' => e = .returned (.int .i64 3) ∧ w' = w6 := ops_any w6 d _ F5 (onS l) h6.dk
        clear h6 hkl HML HFm HOm HO5 HAP H5 HPP H4 HO4 HG4 hk hkx2 HR3
        go_wp2_with fail
        refine kO.mono ?_
        rintro e wq ⟨rfl, rfl⟩
        clear kO
        go_wp2_with fail
        go_loopg [12, 13, 14, 15, 16, 17] 20 (fun kx v12 _ _ _ _ _ wr => ∃ (i N : Nat) (F : Nat → Prop), v12 = .int .i64 (i : Int) ∧ i ≤ 20 ∧ 20 - i ≤ kx ∧ N ≤ 1048584 * (i + 1) ∧ Hid (LS w wr p d F N (onS l)))
        case atStart => exact ⟨0, _, _, rfl, by omega, Nat.le_refl _, by omega, H6⟩
        case round =>
          obtain ⟨i, N, F, rfl, hi, hkx, hN, HL⟩ := hrel
          clear hklz
          by_cases hin : i < n
          · by_cases hi20 : i < 20
            · have hinz : (i : Int) < (n : Int) := by omega
              have hi20z : (i : Int) < 20 := by omega
              have hil : i < ls.length := by have := HN.out; omega
              obtain ⟨b, off, rfl, hcs⟩ := HCS.out (by omega)
              have c0 : wr.cell? ⟨b, off + i, none⟩ = some (ls[i]).1 := by
                have := hcs i hil
                rw [HL.out.bel.cell (World.block_lt_of_cell? _ _ this), this]
              have hrx := HOK.out _ (List.getElem_mem hil)
              obtain ⟨x, hx⟩ : ∃ x, x = (ls[i]).1 := ⟨_, rfl⟩
              obtain ⟨m, hm⟩ : ∃ m, m = (ls[i]).2 := ⟨_, rfl⟩
              rw [← hx, ← hm] at hrx
              rw [← hx] at c0
              have HC0 : Hid (w.cell? ⟨b, off + i, none⟩ = some x) := by rw [hx]; exact hcs i hil
              clear hx hm hcs hil
              obtain ⟨xa2, xc2, rfl⟩ : ∃ a c, x = .slice a m.length c := by obtain ⟨a, c, e, _⟩ := hrx; exact ⟨_, _, e⟩
              have kP := put_ls w wr p d N F (onS l) [97] m (.slice xa2 m.length xc2) HL.out (by simp [maxLen]) (fun w' hf => (hrx.below HL.out.bel).fra hrx.blk HL.out.F0 hf) (by omega) (by show 3 < 999990; omega)
              rw [on3 l m HL20.out] at kP
              obtain ⟨cc, hcc⟩ : ∃ c, c = onC l m := ⟨_, rfl⟩
              rw [← hcc] at kP
              have HCC : Hid (cc = onC l m) := hcc
              have HRX : Hid (Reads w (.slice xa2 m.length xc2) m) := hrx
              clear hrx hcc
              go_wp2_with fail
              refine kP.mono ?_
              rintro e w7 ⟨rfl, ⟨F7, h7, -⟩, -⟩
              have H7 : Hid (LS w w7 p d F7 (N + 1048584) (onS l)) := h7
              have c7 : w7.cell? ⟨b, off + i, none⟩ = some (.slice xa2 m.length xc2) := by rw [h7.bel.cell (World.block_lt_of_cell? _ _ HC0.out), HC0.out]
              have zc := fun nq os => cell_gro c7 nq os
              have zx := fun nq os => conv_string (Go.Sort.grow (w7.drewN nq) os) _ _ ((HRX.out.below h7.bel).below (below_gr w7 nq os))
              have zl := fun nq os => conv_string (Go.Sort.grow (w7.drewN nq) os) _ _ ((HR.out.below h7.bel).below (below_gr w7 nq os))
              clear kP h7 c0 c7
              by_cases hml : m = l
              · have hmb : (m == l) = true := by simpa using hml
                have hlong : ¬ (1048576 : Int) < (m.length : Int) := by subst hml; have := HL20.out; omega
                have hcc : cc = 0 := by rw [HCC.out]; unfold onC; rw [if_neg (by omega), if_pos hml]
                subst hcc
                have hml' := hml.symm
                subst hml'
                clear hml hlong hmb
                have hlong : ¬ (1048576 : Int) < (l.length : Int) := by have := HL20.out; omega
                go_wp2_with fail
                refine wp_region_quiet_grown (by assumption) (by kernel_rfl) ?_
                repeat (go_big_quiet_step (fail))
                refine wpQuiet_nil ?_
                intro T hw'
                obtain ⟨⟨nq, osq⟩, hw''⟩ := hw'
                have HT : Hid (LS w T p d F7 (N + 1048584) (onS l)) := by apply hide; rw [hw'']; exact H7.out.below (below_gr w7 nq osq)
                have cT : T.cell? ⟨b, off + i, none⟩ = some (.slice xa2 l.length xc2) := by rw [HT.out.bel.cell (World.block_lt_of_cell? _ _ HC0.out), HC0.out]
                clear hw'' zc zx zl H7
                have kG := get_ls w T p d _ F7 (onS l) [97] HT.out (by simp [maxLen]) (by omega)
                rw [on2 l HL20.out] at kG
                clear HC0 HRX HCC
                go_wp2_with fail
                refine kG.mono ?_
                rintro e w8 ⟨v8, rfl, o8, b8⟩
                have h8 := HT.out.below b8
                have H8 : Hid (LS w w8 p d F7 (N + 1048584) (onS l)) := h8
                have HO8 : Hid (Owns w8 T.heap.size v8 l) := o8
                obtain ⟨za, zc, hz8, -⟩ := o8.reads
                subst hz8
                have hc8 := conv_string w8 _ _ o8.reads
                have hcf := conv_string w8 _ _ (HR.out.below h8.bel)
                have kO : Calls Try.prog 17 #[.pointer (some ⟨d, 0, none⟩)] w8 fun e w' => e = .returned (.int .i64 3) ∧ w' = w8 := ops_any w8 d _ F7 (onS l) h8.dk
                have HAX : Hid (∀ r, Value.ownBlock (.slice za l.length zc) = some r → ¬ F7 r) := fun r hr hf => by
                  have h1 := HT.out.dk.lt r hf
                  have h2 := (own_lt HO8.out r hr).1
                  omega
                have HPX : Hid (Value.ownBlock (.slice za l.length zc) ≠ some p) := fun q => by
                  have h2 := (own_lt HO8.out p q).1
                  have h3 := HT.out.plt
                  omega
                clear kG o8 b8 h8 cT
                go_wp2_with fail
                refine kO.mono ?_
                rintro e wq2 ⟨rfl, rfl⟩
                clear kO hc8 hcf
                go_wp2_with fail
                go_loopg [17] l.length (fun kx vi wr => ∃ (k : Nat) (m : Str), vi = .int .i64 (k : Int) ∧ k ≤ l.length ∧ l.length - k ≤ kx ∧ Hid (m.length = l.length) ∧ Hid (Owns wr T.heap.size (.slice za l.length zc) m) ∧ Hid (Fr (fun i => Value.ownBlock (.slice za l.length zc) = some i) wq2 wr))
                case atStart => exact ⟨0, l, rfl, by omega, Nat.le_refl _, rfl, HO8, Fr.refl _ _⟩
                case round =>
                  obtain ⟨k2, m2, rfl, hk2, hkx3, HML2, HOm2, HFm2⟩ := hrel
                  by_cases hkl2 : k2 < l.length
                  · have hklz2 : (k2 : Int) < (l.length : Int) := by omega
                    obtain ⟨g, c, hV, hfz⟩ := owns_g HOm2.out (by rw [HML2.out]; omega)
                    injection hV with e1 e2 e3
                    subst e1
                    have hck : wr.cell? ⟨g, k2, none⟩ = some (.int .u8 ((m2.getD k2 0).toNat : Int)) := by
                      have := World.ownsRow.cells HOm2.out rfl k2 _ (bv_get m2 k2 (by rw [HML2.out]; exact hkl2))
                      rw [Addr.add_lit] at this
                      simpa using this
                    have hfk := hfz k2
                    obtain ⟨z, hz⟩ : ∃ z, z = m2.getD k2 0 := ⟨_, rfl⟩
                    rw [← hz] at hck
                    obtain ⟨y, hy⟩ := flip1_ex z
                    have HY : Hid _ := hy
                    clear hz hfz e2 e3 hy
                    go_wp2_with fail
                    go_roundg (l.length - (k2 + 1))
                    case measure => omega
                    case rel =>
                      refine ⟨k2 + 1, m2.set k2 y, by go_num, by omega, Nat.le_refl _, by apply hide; rw [List.length_set]; exact HML2.out, ?_, ?_⟩
                      · apply hide
                        rw [HY.out]
                        exact owns_set HOm2.out k2 y
                      · exact HFm2.out.trans (Fr.of_grown grown_setCell fun j hj => .inl (by cases hj; rfl)) fun _ _ h => h
                  · have hklz2 : ¬ (k2 : Int) < (l.length : Int) := by omega
                    have h9 := H8.out.flip HO8.out HT.out.bel.size HAX.out HPX.out HFm2.out
                    have H9 : Hid _ := h9
                    clear h9 hkl2 HML2 HFm2 HOm2
                    go_wp2_with fail
                    go_roundg (20 - (i + 1))
                    case measure => omega
                    case rel => exact ⟨i + 1, N + 1048584, F7, by go_num, by omega, Nat.le_refl _, by omega, H9⟩
              · have hmb : (m == l) = false := by simpa using hml
                by_cases hlg : 1048576 < m.length
                · have hlong : (1048576 : Int) < (m.length : Int) := by omega
                  have hcc : cc = 1 := by rw [HCC.out]; unfold onC; rw [if_pos hlg]
                  subst hcc
                  have hmc : (m != l) = true := by simpa using hml
                  go_wp2_with fail
                  refine wp_region_quiet_grown (by assumption) (by kernel_rfl) ?_
                  repeat (go_big_quiet_step (fail))
                  refine wpQuiet_nil ?_
                  intro T hw'
                  obtain ⟨⟨nq, osq⟩, hw''⟩ := hw'
                  have HT : Hid (LS w T p d F7 (N + 1048584) (onS l)) := by apply hide; rw [hw'']; exact H7.out.below (below_gr w7 nq osq)
                  have cT : T.cell? ⟨b, off + i, none⟩ = some (.slice xa2 m.length xc2) := by rw [HT.out.bel.cell (World.block_lt_of_cell? _ _ HC0.out), HC0.out]
                  clear hw'' zc zx zl H7
                  have kG := get_ls w T p d _ F7 (onS l) [97] HT.out (by simp [maxLen]) (by omega)
                  rw [on2 l HL20.out] at kG
                  clear HC0 HRX HCC
                  go_wp2_with fail
                  refine kG.mono ?_
                  rintro e w8 ⟨v8, rfl, o8, b8⟩
                  have h8 := HT.out.below b8
                  have H8 : Hid (LS w w8 p d F7 (N + 1048584) (onS l)) := h8
                  have HO8 : Hid (Owns w8 T.heap.size v8 l) := o8
                  obtain ⟨za, zc, hz8, -⟩ := o8.reads
                  subst hz8
                  have hc8 := conv_string w8 _ _ o8.reads
                  have hcf := conv_string w8 _ _ (HR.out.below h8.bel)
                  have kO : Calls Try.prog 17 #[.pointer (some ⟨d, 0, none⟩)] w8 fun e w' => e = .returned (.int .i64 3) ∧ w' = w8 := ops_any w8 d _ F7 (onS l) h8.dk
                  have HAX : Hid (∀ r, Value.ownBlock (.slice za l.length zc) = some r → ¬ F7 r) := fun r hr hf => by
                    have h1 := HT.out.dk.lt r hf
                    have h2 := (own_lt HO8.out r hr).1
                    omega
                  have HPX : Hid (Value.ownBlock (.slice za l.length zc) ≠ some p) := fun q => by
                    have h2 := (own_lt HO8.out p q).1
                    have h3 := HT.out.plt
                    omega
                  clear kG o8 b8 h8 cT
                  go_wp2_with fail
                  refine kO.mono ?_
                  rintro e wq2 ⟨rfl, rfl⟩
                  clear kO hc8 hcf
                  go_wp2_with fail
                  go_loopg [17] l.length (fun kx vi wr => ∃ (k : Nat) (m : Str), vi = .int .i64 (k : Int) ∧ k ≤ l.length ∧ l.length - k ≤ kx ∧ Hid (m.length = l.length) ∧ Hid (Owns wr T.heap.size (.slice za l.length zc) m) ∧ Hid (Fr (fun i => Value.ownBlock (.slice za l.length zc) = some i) wq2 wr))
                  case atStart => exact ⟨0, l, rfl, by omega, Nat.le_refl _, rfl, HO8, Fr.refl _ _⟩
                  case round =>
                    rename_i wy _
                    obtain ⟨k2, m2, rfl, hk2, hkx3, HML2, HOm2, HFm2⟩ := hrel
                    by_cases hkl2 : k2 < l.length
                    · have hklz2 : (k2 : Int) < (l.length : Int) := by omega
                      obtain ⟨g, c, hV, hfz⟩ := owns_g HOm2.out (by rw [HML2.out]; omega)
                      injection hV with e1 e2 e3
                      subst e1
                      have hck : wr.cell? ⟨g, k2, none⟩ = some (.int .u8 ((m2.getD k2 0).toNat : Int)) := by
                        have := World.ownsRow.cells HOm2.out rfl k2 _ (bv_get m2 k2 (by rw [HML2.out]; exact hkl2))
                        rw [Addr.add_lit] at this
                        simpa using this
                      have hfk := hfz k2
                      obtain ⟨z, hz⟩ : ∃ z, z = m2.getD k2 0 := ⟨_, rfl⟩
                      rw [← hz] at hck
                      obtain ⟨y, hy⟩ := flip1_ex z
                      have HY : Hid _ := hy
                      clear hz hfz e2 e3 hy
                      go_wp2_with fail
                      go_roundg (l.length - (k2 + 1))
                      case measure => omega
                      case rel =>
                        refine ⟨k2 + 1, m2.set k2 y, by go_num, by omega, Nat.le_refl _, by apply hide; rw [List.length_set]; exact HML2.out, ?_, ?_⟩
                        · apply hide
                          rw [HY.out]
                          exact owns_set HOm2.out k2 y
                        · exact HFm2.out.trans (Fr.of_grown grown_setCell fun j hj => .inl (by cases hj; rfl)) fun _ _ h => h
                    · have hklz2 : ¬ (k2 : Int) < (l.length : Int) := by omega
                      have h9 := H8.out.flip HO8.out HT.out.bel.size HAX.out HPX.out HFm2.out
                      have H9 : Hid _ := h9
                      clear h9 hkl2 HML2 HFm2 HOm2
                      go_wp2_with fail
                      go_roundg (20 - (i + 1))
                      case measure => omega
                      case rel => exact ⟨i + 1, N + 1048584, F7, by go_num, by omega, Nat.le_refl _, by omega, H9⟩
                · have hlong : ¬ (1048576 : Int) < (m.length : Int) := by omega
                  have hcc : cc = 121 := by rw [HCC.out]; unfold onC; rw [if_neg hlg, if_neg hml]
                  subst hcc
                  have hmc : (m != l) = true := by simpa using hml
                  go_wp2_with fail
                  refine wp_region_quiet_grown (by assumption) (by kernel_rfl) ?_
                  repeat (go_big_quiet_step (fail))
                  refine wpQuiet_nil ?_
                  intro T hw'
                  obtain ⟨⟨nq, osq⟩, hw''⟩ := hw'
                  have HT : Hid (LS w T p d F7 (N + 1048584) (onS l)) := by apply hide; rw [hw'']; exact H7.out.below (below_gr w7 nq osq)
                  have cT : T.cell? ⟨b, off + i, none⟩ = some (.slice xa2 m.length xc2) := by rw [HT.out.bel.cell (World.block_lt_of_cell? _ _ HC0.out), HC0.out]
                  clear hw'' zc zx zl H7
                  have kG := get_ls w T p d _ F7 (onS l) [97] HT.out (by simp [maxLen]) (by omega)
                  rw [on2 l HL20.out] at kG
                  clear HC0 HRX HCC
                  go_wp2_with fail
                  refine kG.mono ?_
                  rintro e w8 ⟨v8, rfl, o8, b8⟩
                  have h8 := HT.out.below b8
                  have H8 : Hid (LS w w8 p d F7 (N + 1048584) (onS l)) := h8
                  have HO8 : Hid (Owns w8 T.heap.size v8 l) := o8
                  obtain ⟨za, zc, hz8, -⟩ := o8.reads
                  subst hz8
                  have hc8 := conv_string w8 _ _ o8.reads
                  have hcf := conv_string w8 _ _ (HR.out.below h8.bel)
                  have kO : Calls Try.prog 17 #[.pointer (some ⟨d, 0, none⟩)] w8 fun e w' => e = .returned (.int .i64 3) ∧ w' = w8 := ops_any w8 d _ F7 (onS l) h8.dk
                  have HAX : Hid (∀ r, Value.ownBlock (.slice za l.length zc) = some r → ¬ F7 r) := fun r hr hf => by
                    have h1 := HT.out.dk.lt r hf
                    have h2 := (own_lt HO8.out r hr).1
                    omega
                  have HPX : Hid (Value.ownBlock (.slice za l.length zc) ≠ some p) := fun q => by
                    have h2 := (own_lt HO8.out p q).1
                    have h3 := HT.out.plt
                    omega
                  clear kG o8 b8 h8 cT
                  go_wp2_with fail
                  refine kO.mono ?_
                  rintro e wq2 ⟨rfl, rfl⟩
                  clear kO hc8 hcf
                  go_wp2_with fail
                  go_loopg [17] l.length (fun kx vi wr => ∃ (k : Nat) (m : Str), vi = .int .i64 (k : Int) ∧ k ≤ l.length ∧ l.length - k ≤ kx ∧ Hid (m.length = l.length) ∧ Hid (Owns wr T.heap.size (.slice za l.length zc) m) ∧ Hid (Fr (fun i => Value.ownBlock (.slice za l.length zc) = some i) wq2 wr))
                  case atStart => exact ⟨0, l, rfl, by omega, Nat.le_refl _, rfl, HO8, Fr.refl _ _⟩
                  case round =>
                    rename_i wy _
                    obtain ⟨k2, m2, rfl, hk2, hkx3, HML2, HOm2, HFm2⟩ := hrel
                    by_cases hkl2 : k2 < l.length
                    · have hklz2 : (k2 : Int) < (l.length : Int) := by omega
                      obtain ⟨g, c, hV, hfz⟩ := owns_g HOm2.out (by rw [HML2.out]; omega)
                      injection hV with e1 e2 e3
                      subst e1
                      have hck : wr.cell? ⟨g, k2, none⟩ = some (.int .u8 ((m2.getD k2 0).toNat : Int)) := by
                        have := World.ownsRow.cells HOm2.out rfl k2 _ (bv_get m2 k2 (by rw [HML2.out]; exact hkl2))
                        rw [Addr.add_lit] at this
                        simpa using this
                      have hfk := hfz k2
                      obtain ⟨z, hz⟩ : ∃ z, z = m2.getD k2 0 := ⟨_, rfl⟩
                      rw [← hz] at hck
                      obtain ⟨y, hy⟩ := flip1_ex z
                      have HY : Hid _ := hy
                      clear hz hfz e2 e3 hy
                      go_wp2_with fail
                      go_roundg (l.length - (k2 + 1))
                      case measure => omega
                      case rel =>
                        refine ⟨k2 + 1, m2.set k2 y, by go_num, by omega, Nat.le_refl _, by apply hide; rw [List.length_set]; exact HML2.out, ?_, ?_⟩
                        · apply hide
                          rw [HY.out]
                          exact owns_set HOm2.out k2 y
                        · exact HFm2.out.trans (Fr.of_grown grown_setCell fun j hj => .inl (by cases hj; rfl)) fun _ _ h => h
                    · have hklz2 : ¬ (k2 : Int) < (l.length : Int) := by omega
                      have h9 := H8.out.flip HO8.out HT.out.bel.size HAX.out HPX.out HFm2.out
                      have H9 : Hid _ := h9
                      clear h9 hkl2 HML2 HFm2 HOm2
                      go_wp2_with fail
                      go_roundg (20 - (i + 1))
                      case measure => omega
                      case rel => exact ⟨i + 1, N + 1048584, F7, by go_num, by omega, Nat.le_refl _, by omega, H9⟩
            · have hinz : (i : Int) < (n : Int) := by omega
              have hi20z : ¬ (i : Int) < 20 := by omega
              go_wp2_with fail
              go_ret
              exact ⟨rfl, HL.out.bel⟩
          · have hinz : ¬ (i : Int) < (n : Int) := by omega
            go_wp2_with fail
            go_ret
            exact ⟨rfl, HL.out.bel⟩
end Go.Proofs.Ythegdhbmfojdaaa
