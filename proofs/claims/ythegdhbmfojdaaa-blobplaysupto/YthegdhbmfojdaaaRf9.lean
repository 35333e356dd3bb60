/- The reference's disk: Rename. -/
import Derived.Test.YthegdhbmfojdaaaRlM
namespace Go.Proofs.Ythegdhbmfojdaaa
open Go.RowKit Go.Maps Go.Sort
set_option linter.unusedVariables false

theorem rrc_has {s : RSt} {a b : Str} (q : rrc s a b = 0) : s.off = false ∧ isNm a = true ∧ isNm b = true ∧ hasF s.fs a = true := by
  unfold rrc at q
  cases ho : s.off with
  | true => rw [ho] at q; simp at q
  | false =>
    cases hn : isNm a with
    | false => rw [ho, hn] at q; simp at q
    | true =>
      cases hn2 : isNm b with
      | false => rw [ho, hn, hn2] at q; simp at q
      | true =>
        cases hh : hasF s.fs a with
        | true => exact ⟨rfl, rfl, rfl, rfl⟩
        | false => rw [ho, hn, hn2, hh] at q; simp at q
theorem rcnt_no {s : RSt} (h : (rcnt s).1 = false) : (rcnt s).2 = { s with n := s.n + 1 } := by
  unfold rcnt at h ⊢
  split
  · rename_i q; rw [if_pos q] at h; cases h
  · rfl
theorem getLast_map {A : List RE} {b : Str} (h : ∀ a, A.getLast? = some a → ¬ b < a.nm) : ∀ a, (A.map RE.fl).getLast? = some a → ¬ b < a.nm := fun a ha => by
  rw [List.getLast?_map] at ha
  cases hl : A.getLast? with
  | none => rw [hl] at ha; cases ha
  | some z =>
    rw [hl] at ha
    simp only [Option.map_some, Option.some.injEq] at ha
    rw [← ha]
    exact h z hl
/-- Behind out: where all lies. -/
structure Ou (bx : Nat) (w0 w : World) (r N : Nat) (F : Nat → Prop) (s : RSt) (x : RE) (Lv : Value) (Z : List RE) : Prop where
  z : ∃ G : Nat → Prop, RZ w r G N s Lv Z ∧ (∀ j, G j → F j ∨ w0.heap.size ≤ j) ∧ (∀ j, x.v.ownBlock = some j → F j ∨ w0.heap.size ≤ j) ∧ ∀ j, G j → j ≠ bx
  xo : Owns w 0 x.v x.bs
  x1 : x.sy ≤ x.bs.length
  xn : x.bs.length ≤ N
  xa : ∀ y ∈ Z, ∀ c, y.v.ownBlock = some c → x.v.ownBlock ≠ some c
  few : Z.length < 1000
  fr : Fr F w0 w
theorem Ou.below {bx : Nat} {w0 w w' : World} {r N : Nat} {F : Nat → Prop} {s : RSt} {x : RE} {Lv : Value} {Z : List RE} (h : Ou bx w0 w r N F s x Lv Z) (hb : Below w.heap.size w w') : Ou bx w0 w' r N F s x Lv Z := by
  obtain ⟨G, z, z1, z2, z3⟩ := h.z
  exact ⟨⟨G, z.frame hb.size fun j hj => hb.block j (z.lt j hj), z1, z2, z3⟩, owns_block h.xo fun b hb' => hb.block b (own_lt h.xo b hb').2, h.x1, h.xn, h.xa, h.few, h.fr.trans (Fr.of_below hb) fun _ _ h => h⟩
theorem erase_apart {Z : List RE} (h : Z.Pairwise fun a b => ∀ c, a.v.ownBlock = some c → b.v.ownBlock ≠ some c) {i : Nat} (hi : i < Z.length) : ∀ y ∈ Z.eraseIdx i, ∀ c, y.v.ownBlock = some c → Z[i].v.ownBlock ≠ some c := fun y hy c hc q => by
  rw [List.mem_eraseIdx_iff_getElem] at hy
  obtain ⟨j, hj, hne, e⟩ := hy
  rw [List.pairwise_iff_getElem] at h
  rcases Nat.lt_or_gt_of_ne hne with k | k
  · exact h j i hj hi k c (by rw [e]; exact hc) q
  · exact h i j hi hj k c q (by rw [e]; exact hc)
theorem Ou.first {w0 w w2 : World} {r N i : Nat} {F F2 : Nat → Prop} {s : RSt} {Lv Lv5 : Value} {Z : List RE} (hz : RZ w r F2 N s Lv Z) (hi : i < Z.length) (h5 : RZ w2 r (fun j => F2 j ∨ Lv5.ownBlock = some j) N { s with fs := s.fs.eraseIdx i } Lv5 (Z.eraseIdx i)) (ho : Owns w2 0 Z[i].v Z[i].bs) (hv : ∀ j, Lv5.ownBlock = some j → w.heap.size ≤ j) (f5 : Fr (fun j => j = r) w w2) (hF2 : ∀ j, F2 j → F j ∨ w0.heap.size ≤ j) (fr : Fr F w0 w) : Ou w2.heap.size w0 w2 r N F { s with fs := s.fs.eraseIdx i } Z[i] Lv5 (Z.eraseIdx i) := by
  have hm := List.getElem_mem hi
  have hs := fr.size
  refine ⟨⟨_, h5, fun j hj => ?_, fun j hj => hF2 j ((hz.e _ hm).2.1 j hj), fun j hj => Nat.ne_of_lt (h5.lt j hj)⟩, ho, (hz.e _ hm).2.2, hz.nb _ hm, erase_apart hz.ap hi, ?_, fr.trans f5 fun j hj q => ?_⟩
  · rcases hj with hj | hj
    · exact hF2 j hj
    · right
      have := hv j hj
      omega
  · have := hz.few
    rw [List.length_eraseIdx_of_lt hi]
    omega
  · have q' : j = r := q
    rcases hF2 r hz.f with h | h
    · rw [q']; exact h
    · omega
theorem Ou.again {bx : Nat} {w0 w w2 : World} {r N i : Nat} {F : Nat → Prop} {s : RSt} {x : RE} {Lv Lv5 : Value} {Z : List RE} (h : Ou bx w0 w r N F s x Lv Z) (hi : i < Z.length) (G : Nat → Prop) (hz : RZ w r G N s Lv Z) (hG : (∀ j, G j → F j ∨ w0.heap.size ≤ j) ∧ (∀ j, x.v.ownBlock = some j → F j ∨ w0.heap.size ≤ j) ∧ ∀ j, G j → j ≠ bx) (hbx : bx < w.heap.size) (h5 : RZ w2 r (fun j => G j ∨ Lv5.ownBlock = some j) N { s with fs := s.fs.eraseIdx i } Lv5 (Z.eraseIdx i)) (hv : ∀ j, Lv5.ownBlock = some j → w.heap.size ≤ j) (f5 : Fr (fun j => j = r) w w2) (hxr : x.v.ownBlock ≠ some r) : Ou bx w0 w2 r N F { s with fs := s.fs.eraseIdx i } x Lv5 (Z.eraseIdx i) := by
  have hs := h.fr.size
  refine ⟨⟨_, h5, fun j hj => ?_, hG.2.1, fun j hj => hj.elim (hG.2.2 j) fun q => by have := hv j q; omega⟩, owns_block h.xo fun b hb => f5.block b (own_lt h.xo b hb).2 fun q => ?_, h.x1, h.xn, fun y hy => h.xa y (List.mem_of_mem_eraseIdx hy), ?_, h.fr.trans f5 fun j hj q => ?_⟩
  · rcases hj with hj | hj
    · exact hG.1 j hj
    · right
      have := hv j hj
      omega
  · have q' : b = r := q
    rw [q'] at hb
    exact hxr hb
  · have := h.few
    have := List.length_eraseIdx_le (l := Z) (i := i)
    omega
  · have q' : j = r := q
    rcases hG.1 r hz.f with h | h
    · rw [q']; exact h
    · omega
theorem RZ.xr {w : World} {r N : Nat} {F : Nat → Prop} {s : RSt} {Lv : Value} {Z : List RE} (h : RZ w r F N s Lv Z) {u : Value} {l : Str} (hu : Owns w 0 u l) : u.ownBlock ≠ some r := fun q => by
  rcases hu.2 with ⟨q0, _⟩ | ⟨g', c', cur, q0, q2, q3, _⟩
  · rw [q0] at q; cases q
  · rw [q0] at q
    injection q with q
    have hg' : g' = r := q
    have q1 := h.b
    unfold BxA at q1
    rw [← hg', q3] at q1
    simp at q1
set_option maxRecDepth 100000 in
set_option maxHeartbeats 1600000 in
theorem refrename_any (w : World) (r N : Nat) (F : Nat → Prop) (s : RSt) (a b : Str) (h : Rd w r F N s) (ha : a.length ≤ maxLen) (hb : b.length ≤ maxLen) (hN : N ≤ 140737488355328) (hop : s.n < 1000000) (hp : s.part ≤ 9223372036854775807) (hS : Srt s.fs) :
    Calls Try.prog 66 #[.pointer (some ⟨r, 0, none⟩), .string ⟨a.toArray⟩, .string ⟨b.toArray⟩] w fun e w' => e = .returned (.int .i64 ((rren s a b).1 : Nat)) ∧ Rm w w' r F N (rren s a b).2 := by
  have mixed : Try.prog.follows .mixedOrders = true := by kernel_rfl
  have kR := refrefused_any w r N F s a b h ha hb
  have kC := refcounts_any w r N F s h hN hop hp
  have HH : Hid (Rd w r F N s) := h
  obtain ⟨c, hc⟩ : ∃ c, c = rrc s a b := ⟨_, rfl⟩
  rw [← hc] at kR
  have HCC : Hid (c = rrc s a b) := hc
  have HS : Hid (Srt s.fs) := hS
  clear h hc hS
  by_cases h0 : c = 0
  · subst h0
    have hh := (rrc_has HCC.out.symm).2.2.2
    obtain ⟨q, hq⟩ : ∃ q, q = (rcnt s).1 := ⟨_, rfl⟩
    rw [← hq] at kC
    have HB : Hid (q = (rcnt s).1) := hq
    have HT : Hid (hasF s.fs a = true) := hh
    clear hq hh
    cases q
    case true =>
      have HE : Hid (rren s a b = (122, (rcnt s).2)) := by
        apply hide
        unfold rren
        rw [← HCC.out, if_neg (by simp), if_pos HB.out.symm]
      go_enter Try.func66, Try.ntmps66
      go_wp2_with fail
      refine kR.mono ?_
      rintro e wq ⟨rfl, rfl⟩
      clear kR
      go_wp2_with fail
      refine kC.mono ?_
      rintro e w2 ⟨rfl, m2⟩
      have HM2 : Hid _ := m2
      clear kC m2
      go_wp2_with fail
      go_ret
      rw [HE.out]
      exact ⟨rfl, HM2.out⟩
    case false =>
      have HE : Hid (rren s a b = (0, { (rcnt s).2 with fs := srtF (movF s.fs a b) })) := by
        apply hide
        unfold rren
        rw [← HCC.out, if_neg (by simp), if_neg (by rw [← HB.out]; simp)]
      have HFS : Hid ((rcnt s).2.fs = s.fs) := by apply hide; rw [rcnt_no HB.out.symm]
      obtain ⟨s2, hs2⟩ : ∃ q, q = (rcnt s).2 := ⟨_, rfl⟩
      rw [← hs2] at kC HE HFS
      rw [← HFS.out] at HT HS HE
      clear hs2 HB HCC HH
      go_enter Try.func66, Try.ntmps66
      go_wp2_with fail
      refine kR.mono ?_
      rintro e wq ⟨rfl, rfl⟩
      clear kR
      go_wp2_with fail
      refine kC.mono ?_
      rintro e w2 ⟨rfl, ⟨F2, d2, hF2⟩, f2⟩
      obtain ⟨Lv, Z, hz⟩ := d2
      obtain ⟨i, hi, e1, e2, -, -⟩ := hz.find HT.out
      obtain ⟨la, cap, rfl, hc1, hc2, hcs⟩ := hz.cells
      obtain ⟨g, rfl, -⟩ := hcs (by omega)
      have kO := refout_any w2 r N g cap Z.length i F2 s2 a Z hz rfl hi e1
      have HF1 : Hid (s2.fs[i]? = some (Z[i]'hi).fl ∧ (Z[i]'hi).nm = a) := by
        apply hide
        refine ⟨?_, e2⟩
        rw [← hz.fs, List.getElem?_map, List.getElem?_eq_getElem hi]
        rfl
      have HZ : Hid (RZ w2 r F2 N s2 (.slice (some ⟨g, 0, none⟩) Z.length cap) Z) := hz
      have HI : Hid (i < Z.length) := hi
      have HM : Hid ((∀ i, F2 i → F i ∨ wq.heap.size ≤ i) ∧ Fr F wq w2) := ⟨hF2, f2⟩
      have q1 := (hz.e _ (List.getElem_mem hi)).1
      obtain ⟨x, hx⟩ : ∃ x, x = Z[i]'hi := ⟨_, rfl⟩
      have HX : Hid (x = Z[i]'hi) := hx
      rw [← hx] at kO HF1 q1
      obtain ⟨xnm, xv, xbs, xsy⟩ := x
      simp only at kO q1
      obtain ⟨va, vc, rfl⟩ : ∃ a c, xv = .slice a xbs.length c := by obtain ⟨a, c, e, _⟩ := q1.reads; exact ⟨_, _, e⟩
      clear hz e1 e2 kC hF2 f2 hcs hc1 hc2 q1 hx
      go_wp2_with fail
      refine kO.mono ?_
      rintro e w5 ⟨rfl, Lv5, h5, ho5, hv5, f5⟩
      have HO5 : Hid (Ou w5.heap.size wq w5 r N F { s2 with fs := s2.fs.eraseIdx i } ⟨xnm, .slice va xbs.length vc, xbs, xsy⟩ Lv5 (Z.eraseIdx i)) := by
        apply hide
        have := Ou.first (w0 := wq) (F := F) HZ.out HI.out h5 (by rw [← HX.out]; exact ho5) hv5 f5 HM.out.1 HM.out.2
        rw [← HX.out] at this
        exact this
      clear kO h5 ho5 hv5 f5 HX HM
      go_upto_region 8 with (first | (refine wpList_storeN rfl 79 (.tmp 9) (.tmp 22) rfl w5 #[.string ⟨#[]⟩, .slice none 0 0, .int .i64 0] #[.string ⟨xnm.toArray⟩, .slice va xbs.length vc, .int .i64 (xsy : Int)] rfl rfl rfl (by kernel_rfl) rfl rfl ?_))
      obtain ⟨W6, hW6⟩ : ∃ W, W = w5.alloc (.cells #[.string ⟨xnm.toArray⟩, .slice va xbs.length vc, .int .i64 (xsy : Int)] 79) := ⟨_, rfl⟩
      rw [← hW6]
      have HB6 : Hid (RowKit.Below w5.heap.size w5 W6) := by apply hide; rw [hW6]; exact (RowKit.Below.refl _ _).alloc (Nat.le_refl _) _
      have HBX : Hid (BxA W6 w5.heap.size 79 #[.string ⟨xnm.toArray⟩, .slice va xbs.length vc, .int .i64 (xsy : Int)]) := by apply hide; rw [hW6]; exact BxA.new _ _ _
      have HO6 : Hid (Ou w5.heap.size wq W6 r N F { s2 with fs := s2.fs.eraseIdx i } ⟨xnm, .slice va xbs.length vc, xbs, xsy⟩ Lv5 (Z.eraseIdx i)) := HO5.out.below HB6.out
      obtain ⟨bx, hbx⟩ : ∃ b, b = w5.heap.size := ⟨_, rfl⟩
      rw [← hbx] at HBX HO6
      rw [← hbx]
      have HBN : Hid (wq.heap.size ≤ bx) := by
        apply hide
        have := HO5.out.fr.size
        omega
      have HBR : Hid (bx ≠ r) := by
        apply hide
        obtain ⟨G, hG, -⟩ := HO5.out.z
        have := hG.lt r hG.f
        omega
      clear hW6 HO5 HB6 hbx
      obtain ⟨s3, hs3⟩ : ∃ s3 : RSt, s3 = { s2 with fs := s2.fs.eraseIdx i } := ⟨_, rfl⟩
      rw [← hs3] at HO6
      have HS3 : Hid (s3 = { s2 with fs := s2.fs.eraseIdx i }) := hs3
      have HSS : Hid (Srt s3.fs) := by apply hide; rw [hs3]; exact HS.out.erase i
      clear hs3
      obtain ⟨z, hz⟩ : ∃ z, z = fI s3.fs b := ⟨_, rfl⟩
      have HZZ : Hid (z = fI s3.fs b) := hz
      have kF : Calls Try.prog 62 #[.pointer (some ⟨r, 0, none⟩), .string ⟨b.toArray⟩] W6 fun e w' => e = .returned (.int .i64 z) ∧ w' = W6 := by
        obtain ⟨G, hG, -⟩ := HO6.out.z
        rw [hz]
        exact reffind_any W6 r N G s3 b ⟨_, _, hG⟩
      clear hz
      go_wp2_with fail
      refine kF.mono ?_
      rintro e wz ⟨rfl, rfl⟩
      clear kF
      go_upto_if 26 with fail
      go_cut [] (fun wA => ∃ (LA : Value) (ZA : List RE), Hid (Ou bx wq wA r N F { s3 with fs := delF s3.fs b } ⟨xnm, .slice va xbs.length vc, xbs, xsy⟩ LA ZA) ∧ Hid (BxA wA bx 79 #[.string ⟨xnm.toArray⟩, .slice va xbs.length vc, .int .i64 (xsy : Int)]))
      case first =>
        obtain ⟨G, hG, hG1, hG2, hG3⟩ := HO6.out.z
        cases hh : hasF s3.fs b with
        | true =>
          obtain ⟨j, hj, e1, e2, -, -⟩ := hG.find hh
          rw [e1] at HZZ
          have hzz := HZZ.out
          subst hzz
          obtain ⟨la, cap', hla, -, -, hcs⟩ := hG.cells
          subst hla
          obtain ⟨g', rfl, -⟩ := hcs (by omega)
          have kO := refout_any wz r N g' cap' _ j G s3 b (Z.eraseIdx i) hG rfl hj e1
          have HGG : Hid (RZ wz r G N s3 (.slice (some ⟨g', 0, none⟩) (Z.eraseIdx i).length cap') (Z.eraseIdx i) ∧ (∀ j, G j → F j ∨ wq.heap.size ≤ j) ∧ (∀ j, Value.ownBlock (.slice va xbs.length vc) = some j → F j ∨ wq.heap.size ≤ j) ∧ (∀ j, G j → j ≠ bx)) := ⟨hG, hG1, hG2, hG3⟩
          have HD : Hid (delF s3.fs b = s3.fs.eraseIdx j ∧ j < (Z.eraseIdx i).length) := by
            apply hide
            refine ⟨?_, hj⟩
            have q : s3.fs[j]? = some ((Z.eraseIdx i)[j]'hj).fl := by
              rw [← hG.fs, List.getElem?_map, List.getElem?_eq_getElem hj]
              rfl
            have := del_atR HSS.out.nd q
            rw [show ((Z.eraseIdx i)[j]'hj).fl.nm = b from e2] at this
            exact this
          have hjz : (0 : Int) ≤ (j : Int) := by omega
          clear hG hG1 hG2 hG3 e1 e2 hcs
          go_wp2_with fail
          refine kO.mono ?_
          rintro e w7 ⟨rfl, Lv7, h7, -, hv7, f7⟩
          have HO7 : Hid (Ou bx wq w7 r N F { s3 with fs := delF s3.fs b } ⟨xnm, .slice va xbs.length vc, xbs, xsy⟩ Lv7 ((Z.eraseIdx i).eraseIdx j)) := by
            apply hide
            rw [HD.out.1]
            exact HO6.out.again HD.out.2 G HGG.out.1 HGG.out.2 HBX.out.lt h7 hv7 f7 (HGG.out.1.xr HO6.out.xo)
          have HB7 : Hid (BxA w7 bx 79 #[.string ⟨xnm.toArray⟩, .slice va xbs.length vc, .int .i64 (xsy : Int)]) := by
            apply hide
            have := HBX.out
            have hl := this.lt
            unfold BxA at this ⊢
            rw [f7.block bx hl HBR.out]
            exact this
          clear kO h7 hv7 f7
          go_wp2_with fail
          go_meet
          case rel => exact ⟨_, _, HO7, HB7⟩
        | false =>
          rw [fI_none hh] at HZZ
          have hzz := HZZ.out
          subst hzz
          have HD : Hid (delF s3.fs b = s3.fs) := del_noneR hh
          clear hG hG1 hG2 hG3 hh
          go_wp2_with fail
          go_meet
          case rel => exact ⟨_, _, by apply hide; rw [HD.out]; exact HO6.out, HBX⟩
      case rest =>
        rename World => w8
        obtain ⟨LA, ZA, HOA, HBA⟩ := hcut
        have y0 := BxA.cell HBA.out 0 _ rfl
        have y1 := BxA.cell HBA.out 1 _ rfl
        have y2 := BxA.cell HBA.out 2 _ rfl
        have yf := BxA.free HBA.out 0
        obtain ⟨X, hX⟩ : ∃ X, X = w8.setCell ⟨bx, 0, none⟩ (.string ⟨b.toArray⟩) := ⟨_, rfl⟩
        have HX : Hid (X = w8.setCell ⟨bx, 0, none⟩ (.string ⟨b.toArray⟩)) := hX
        have HBX2 : Hid (BxA X bx 79 #[.string ⟨b.toArray⟩, .slice va xbs.length vc, .int .i64 (xsy : Int)]) := by apply hide; rw [hX]; exact BxA.set HBA.out 0 _
        have x0 := BxA.cell HBX2.out 0 _ rfl
        have x1 := BxA.cell HBX2.out 1 _ rfl
        have x2 := BxA.cell HBX2.out 2 _ rfl
        clear hX
        go_upto_region 11 with fail
        rw [← HX.out]
        obtain ⟨G, hG, hG1, hG2, hG3⟩ := HOA.out.z
        have HFX : Hid (Fr (fun j => j = bx) w8 X) := by apply hide; rw [HX.out]; exact Fr.of_grown grown_setCell fun j hj => .inl (by cases hj; rfl)
        have hbo : ∀ (e k n : Nat) (u : Value) (xs : List Value), e ≠ 79 → w8.ownsRow 0 e k u n xs → ∀ b, u.ownBlock = some b → b ≠ bx := fun e k n u xs he hu b hk q => by
          subst q
          rcases hu.2 with ⟨q, _⟩ | ⟨g', c', cur, q, q2, q3, _⟩
          · rw [q] at hk; cases hk
          · rw [q] at hk
            injection hk with hk
            have hb' : g' = b := hk
            rw [hb'] at q3
            have q1 := HBA.out
            unfold BxA at q1
            rw [q3] at q1
            simp only [Option.some.injEq, Obj.cells.injEq] at q1
            exact he q1.2.1
        have hGX : RZ X r G N { s3 with fs := delF s3.fs b } LA ZA := hG.frame HFX.out.size fun j hj => HFX.out.block j (hG.lt j hj) (hG3 j hj)
        have hxX : Owns X 0 (.slice va xbs.length vc) xbs := owns_block HOA.out.xo fun j hj => HFX.out.block j (own_lt HOA.out.xo j hj).2 (hbo 5 1 _ _ _ (by decide) HOA.out.xo j hj)
        have kP := refput_any X r N G { s3 with fs := delF s3.fs b } LA ZA ⟨b, .slice va xbs.length vc, xbs, xsy⟩ hGX hxX HOA.out.x1 HOA.out.xn HOA.out.xa HOA.out.few
        have HGG : Hid ((∀ j, G j → F j ∨ wq.heap.size ≤ j) ∧ (∀ j, Value.ownBlock (.slice va xbs.length vc) = some j → F j ∨ wq.heap.size ≤ j) ∧ Fr F wq X ∧ ZA.map RE.fl = delF s3.fs b) := by
          apply hide
          refine ⟨hG1, hG2, HOA.out.fr.trans (HFX.out) fun j hj q => ?_, hG.fs⟩
          have q' : j = bx := q
          exfalso
          have := HBN.out
          omega
        clear hG hG1 hG2 hG3 hGX hxX hbo y0 y1 y2 yf
        go_wp2_with fail
        refine kP.mono ?_
        rintro e w9 ⟨rfl, Lv9, A, B, p1, p2, p3, p4, p5, p6⟩
        have H9 : Hid (ZA = A ++ B ∧ (∀ q ∈ B, b < q.nm) ∧ (∀ q, A.getLast? = some q → ¬ b < q.nm) ∧ RZ w9 r (fun j => (G j ∨ Value.ownBlock (.slice va xbs.length vc) = some j) ∨ Lv9.ownBlock = some j) N { s3 with fs := (A ++ ⟨b, .slice va xbs.length vc, xbs, xsy⟩ :: B).map RE.fl } Lv9 (A ++ ⟨b, .slice va xbs.length vc, xbs, xsy⟩ :: B) ∧ (∀ j, Lv9.ownBlock = some j → G j ∨ X.heap.size ≤ j) ∧ Fr G X w9) := ⟨p1, p2, p3, p4, p5, p6⟩
        clear kP p1 p2 p3 p4 p5 p6
        go_wp2_with fail
        go_ret
        obtain ⟨p1, p2, p3, p4, p5, p6⟩ := H9.out
        have hs1 := HGG.out.2.2.1.size
        have e9 : (A ++ ⟨b, .slice va xbs.length vc, xbs, xsy⟩ :: B).map RE.fl = srtF (movF s2.fs a b) := by
          have e1 := HF1.out
          have e2 := mov_spR HS.out e1.1 b (ZA.map RE.fl) (by rw [HGG.out.2.2.2, HS3.out]) (A := A.map RE.fl) (B := B.map RE.fl) (by rw [p1, List.map_append]) (fun q hq => by
            obtain ⟨y, hy, rfl⟩ := List.mem_map.1 hq
            exact p2 y hy) (getLast_map p3)
          rw [show (RE.fl ⟨xnm, .slice va xbs.length vc, xbs, xsy⟩).nm = a from e1.2] at e2
          rw [List.map_append, List.map_cons]
          exact e2
        rw [e9, HS3.out] at p4
        rw [HE.out]
        refine ⟨rfl, ⟨_, ⟨_, _, p4⟩, fun j hj => ?_⟩, HGG.out.2.2.1.trans p6 fun j hj q => ?_⟩
        · rcases hj with (hj | hj) | hj
          · exact HGG.out.1 j hj
          · exact HGG.out.2.1 j hj
          · rcases p5 j hj with q | q
            · exact HGG.out.1 j q
            · right; omega
        · rcases HGG.out.1 j q with q | q
          · exact q
          · omega
  · have h0z : ¬ (c : Int) = 0 := by omega
    have HE : Hid (rren s a b = (c, s)) := by
      apply hide
      unfold rren
      rw [← HCC.out, if_pos h0]
    go_enter Try.func66, Try.ntmps66
    go_wp2_with fail
    refine kR.mono ?_
    rintro e wq ⟨rfl, rfl⟩
    clear kR kC
    go_wp2_with fail
    go_ret
    rw [HE.out]
    exact ⟨rfl, Rm.same HH.out (Fr.refl _ _)⟩
end Go.Proofs.Ythegdhbmfojdaaa
