/- The contract of 'of': what the program has of facts, one by one. -/
import Derived.Test.YtkoihniggoelnaaEns
import Derived.Deep.LoopGhost
import Derived.Deep.DeepCutAuto
namespace Go.Proofs.Ytkoihniggoelnaa
open Go.RowKit Go.Sort

/-- So many texts at most. -/
theorem of_len (k c : Int) : ∀ (l : List En), AOk l → tot l < 18446744073709551616 → (ofP k c l).2.2.length ≤ l.length
  | [], _, _ => by simp [ofP]
  | e :: l, h, ht => by
    have hh := hasP_len k c e.f e.n
    have ih := of_len k c l h.cons.2 (by rw [tot_cons] at ht; omega)
    rw [of_cons h ht, List.length_cons]
    have hz : (hasZ k c e.f e.n).2.2.length ≤ 1 := by unfold hasZ; split <;> simp_all
    unfold mrgP
    split
    · simp
    · split
      · omega
      · split
        · omega
        · simp only [jt]
          split
          · have := uniL_len (hasZ k c e.f e.n).2.2 (ofP k c l).2.2; omega
          · simp
set_option maxHeartbeats 8000000 in
theorem of_any (w : World) (k c : Int) (v : Value) (l : List En) (h : RdsM w v l) (hA : AOk l) (ht : tot l < 18446744073709551616) (hbig : l.length ≤ 900) :
    Calls Try.prog 16 #[.agg #[.int .i64 k, .int .i64 c], v] w (Gives (ofP k c l) w) := by
  obtain ⟨ao, n, cap, rfl⟩ := h.sl
  obtain ⟨hn, hc1, hc2⟩ := h.len
  have hc2' := hc2
  unfold maxLen at hc2
  obtain ⟨W, hW⟩ : ∃ W, W = (w.alloc (.cells #[.int .i64 k, .int .i64 c] 26)).alloc (.cells #[.int .u64 0, .int .i64 0, .slice none 0 0] 30) := ⟨_, rfl⟩
  have gW : Grows w W := by rw [hW]; exact (Grows.alloc _ _).trans (Grows.alloc _ _)
  have ha0 : W.cell? ⟨w.heap.size, 0, none⟩ = some (.int .i64 k) ∧ W.cell? ⟨w.heap.size, 1, none⟩ = some (.int .i64 c) := by
    rw [hW]
    exact ⟨cell_up (Grows.alloc _ _).below (al_new _ _ _ rfl rfl), cell_up (Grows.alloc _ _).below (al_new _ _ _ rfl rfl)⟩
  have hbx : Box3 W (w.heap.size + 1) (.int .u64 0) (.int .i64 0) (.slice none 0 0) := by rw [hW]; exact Box3.new _ _ _ _ _ _ (by simp)
  have HN : Hid (n = l.length) := hn
  have hn9 : n ≤ 900 := by omega
  have HH : Hid (RdsM W (.slice ao n cap) l) := h.below gW.below
  have HG : Hid (Below w.heap.size w W ∧ AOk l ∧ tot l < 18446744073709551616) := ⟨gW.below, hA, ht⟩
  have HBX : Hid _ := hbx
  have HA0 : Hid _ := ha0
  have kS := start_any W k c
  have mixed : Try.prog.follows .mixedOrders = true := by kernel_rfl
  have HW : Hid _ := hW
  rw [hW] at kS
  obtain ⟨c0, c1⟩ : ((w.alloc (.cells #[.int .i64 k, .int .i64 c] 26)).alloc (.cells #[.int .u64 0, .int .i64 0, .slice none 0 0] 30)).cell? ⟨w.heap.size, 0, none⟩ = some (.int .i64 k) ∧ ((w.alloc (.cells #[.int .i64 k, .int .i64 c] 26)).alloc (.cells #[.int .u64 0, .int .i64 0, .slice none 0 0] 30)).cell? ⟨w.heap.size, 1, none⟩ = some (.int .i64 c) := by rw [← hW]; exact ha0
  clear h hn hbig hW gW ha0 hbx hA ht
  go_enter Try.func16, Try.ntmps16
  go_wp2_with fail
  refine kS.mono ?_
  rintro e W1 ⟨rfl, g1⟩
  rw [← HW.out] at g1
  have hb1 : Below W.heap.size W W1 := g1.below
  obtain ⟨B5, hB5⟩ : ∃ B5, B5 = W1.heap.size := ⟨_, rfl⟩
  have HB5W : Hid (W1.heap.size ≤ B5) := Nat.le_of_eq hB5.symm
  have HI : Hid (Box3 (W1.alloc (.cells #[.int .u64 0, .int .i64 0, .slice none 0 0] 30)) B5 (.int .u64 0) (.int .i64 0) (.slice none 0 0) ∧ Below W1.heap.size W1 (W1.alloc (.cells #[.int .u64 0, .int .i64 0, .slice none 0 0] 30))) := ⟨Box3.new _ _ _ _ _ _ hB5, (Grows.alloc _ _).below⟩
  have HH1 : Hid (RdsM W1 (.slice ao n cap) l) := HH.out.below hb1
  have HA1 : Hid _ := And.intro (cell_up hb1 HA0.out.1) (cell_up hb1 HA0.out.2)
  have HBX1 : Hid _ := HBX.out.up hb1
  have HG1 : Hid (Below w.heap.size w W1 ∧ AOk l ∧ tot l < 18446744073709551616) := ⟨HG.out.1.trans (hb1.mono HG.out.1.size), HG.out.2⟩
  have HWS : Hid (w.heap.size + 1 < W1.heap.size) := HBX1.out.lt
  clear kS c0 c1 g1 hb1 HH HA0 HBX HG HW
  go_wp2_with fail
  rw [← hB5]
  have HZ5 : Hid _ := hB5
  clear hB5
  go_loopg [6] n (fun kx v6 wr => ∃ i : Nat, v6 = .int .i64 i ∧ i ≤ n ∧ n - i ≤ kx ∧ Hid (∃ r : Pt, Box3 wr B5 (.int .u64 r.n) (.int .i64 r.v) r.tv ∧ r.Ok wr ∧ r.p0 = ofP k c (l.take i) ∧ New W1.heap.size r.tv ∧ Below W1.heap.size W1 wr))
  case atStart => exact ⟨0, rfl, by omega, Nat.le_refl _, ⟨0, 0, .slice none 0 0, []⟩, HI.out.1, ⟨Rds.nil _⟩, rfl, New.nil _, HI.out.2⟩
  case round =>
    obtain ⟨i, rfl, hi, hkx, HX0⟩ := hrel
    by_cases hlt : i < n
    · have hltz : (i : Int) < (n : Int) := by omega
      have hil : i < l.length := by have := HN.out; omega
      obtain ⟨r, bx5, okr, hr, hnr, hbw⟩ := HX0.out
      have hr4 := HH1.out.below hbw
      obtain ⟨-, -, -, b, off, rfl, hcell⟩ := hr4.at (by omega)
      obtain ⟨t0, t1, t2, t3⟩ := hcell i hil
      have okf := hr4.ok l[i] (List.getElem_mem hil)
      obtain ⟨q0, q1⟩ := And.intro (cell_up hbw HA1.out.1) (cell_up hbw HA1.out.2)
      have HW1 : Hid (Below W1.heap.size W1 wr) := hbw
      obtain ⟨J, hJ⟩ : ∃ J, J = ofP k c (l.take (i + 1)) := ⟨_, rfl⟩
      have HJ : Hid (J = ofP k c (l.take (i + 1))) := hJ
      have hJ2 : J = addP k c r.p0 l[i].f l[i].n := by rw [hJ, hr]; exact foldl_take (fun p (e : En) => addP k c p e.f e.n) _ l i hil
      have hgd : Gd k (tot (l.take i)) r.p0 := by rw [hr]; exact of_gd (fun e he => HG1.out.2.1 e (List.mem_of_mem_take he)) (Int.lt_of_le_of_lt (tot_take_le l i) HG1.out.2.2)
      have hle : r.ts.length ≤ i := by
        have h1 := of_len k c (l.take i) (fun e he => HG1.out.2.1 e (List.mem_of_mem_take he)) (Int.lt_of_le_of_lt (tot_take_le l i) HG1.out.2.2)
        rw [← hr] at h1
        have h2 : r.p0.2.2.length = r.ts.length := rfl
        rw [List.length_take] at h1
        omega
      have HK : Aside (∀ X, Below wr.heap.size wr X → Calls Try.prog 23 #[.agg #[.int .i64 k, .int .i64 c], .agg #[.int .u64 r.n, .int .i64 r.v, r.tv], .agg #[.int .i64 l[i].f.t, l[i].f.dv, l[i].f.mv], .int .u64 l[i].n] X (Gives J X)) := fun X bX => by
        have := add_any X k c l[i].n r l[i].f (okr.up bX) (okf.up bX) (by omega) (fun h1 h5 => ⟨hgd.t1 h5 h1, by omega⟩)
        rw [← hJ2] at this
        exact this
      obtain ⟨aD, nD, cD, hD⟩ := okf.rd.sl
      obtain ⟨aM, nM, cM, hM⟩ := okf.rm.sl
      obtain ⟨a5, n5, c5, h5⟩ := okr.rt.sl
      rw [hD, hM, h5] at HK
      rw [hD] at t1
      rw [hM] at t2
      rw [h5] at bx5
      obtain ⟨rn, rv, rtv, rts⟩ := r
      simp only at HK bx5
      generalize l[i].f.t = tt at t0 HK
      generalize l[i].n = nn at t3 HK
      clear okf hr4 hcell hD hM hJ hJ2 hgd hle h5 okr hr hnr hbw hil
      go_wp2_with fail
      refine wp_region_invA (fun a0 d a' w' => ∃ x15 x16 x17 x18 x19 x20 x21 x22 x23 x24 x25 x26 x27 : Value, a' = (((((((((((((a0.put (some 15) x15).put (some 16) x16).put (some 17) x17).put (some 18) x18).put (some 19) x19).put (some 20) x20).put (some 21) x21).put (some 22) x22).put (some 23) x23).put (some 24) x24).put (some 25) x25).put (some 26) x26).put (some 27) x27) ∧ ((d 13 = false ∧ Below wr.heap.size wr w' ∧ (d 0 = true → Evr w' (fun _ => x15 = .agg #[.int .i64 k, .int .i64 c])) ∧ (d 1 = true → Evr w' (fun _ => x16 = .agg #[.int .u64 rn, .int .i64 rv, .slice a5 n5 c5])) ∧ (d 2 = true → Evr w' (fun _ => x17 = .slice (some ⟨b, off, none⟩) n cap)) ∧ (d 3 = true → Evr w' (fun _ => x18 = .int .i64 (i : Int))) ∧ (d 4 = true → Evr w' (fun _ => x19 = .pointer (some ⟨b, off + i * 4, none⟩))) ∧ (d 5 = true → Evr w' (fun _ => x20 = .pointer (some ⟨b, off + i * 4, none⟩))) ∧ (d 6 = true → Evr w' (fun _ => x21 = .agg #[.int .i64 tt, .slice aD nD cD, .slice aM nM cM])) ∧ (d 7 = true → Evr w' (fun _ => x22 = .slice (some ⟨b, off, none⟩) n cap)) ∧ (d 8 = true → Evr w' (fun _ => x23 = .int .i64 (i : Int))) ∧ (d 9 = true → Evr w' (fun _ => x24 = .pointer (some ⟨b, off + i * 4, none⟩))) ∧ (d 10 = true → Evr w' (fun _ => x25 = .pointer (some ⟨b, off + i * 4 + 3, none⟩))) ∧ (d 11 = true → Evr w' (fun _ => x26 = .int .u64 (nn : Int))) ∧ (d 12 = true → Evr w' (fun X => ∃ r : Pt, x27 = .agg #[.int .u64 r.n, .int .i64 r.v, r.tv] ∧ r.p0 = J ∧ ∀ u v z, New W1.heap.size r.tv ∧ r.Ok (put3 X B5 u v z)))) ∨ ((∀ j, j < 14 → d j = true) ∧ ∃ r : Pt, Box3 w' B5 (.int .u64 r.n) (.int .i64 r.v) r.tv ∧ r.Ok w' ∧ r.p0 = J ∧ New W1.heap.size r.tv ∧ Below W1.heap.size W1 w'))) mixed (by kernel_rfl) ?_ ?_ ?_
      · exact ⟨u15, u16, u17, u18, u19, u20, u21, u22, u23, u24, u25, u26, u27, (by simp only [Act.put, List.setIfInBounds_toArray, List.set_cons_zero, List.set_cons_succ]), .inl ⟨rfl, below_dN (Below.refl _ _) 1, (fun h => by cases h), (fun h => by cases h), (fun h => by cases h), (fun h => by cases h), (fun h => by cases h), (fun h => by cases h), (fun h => by cases h), (fun h => by cases h), (fun h => by cases h), (fun h => by cases h), (fun h => by cases h), (fun h => by cases h), (fun h => by cases h)⟩⟩
      · refine ⟨?_, ?_, ?_, ?_, ?_, ?_, ?_, ?_, ?_, ?_, ?_, ?_, ?_, ?_, trivial⟩
        · rintro d a w' ⟨x15, x16, x17, x18, x19, x20, x21, x22, x23, x24, x25, x26, x27, rfl, ⟨hl, hB, f0, f1, f2, f3, f4, f5, f6, f7, f8, f9, f10, f11, f12⟩ | ⟨hall, -⟩⟩ hd hdp K hK
          case inr => exact absurd (hall 0 (by decide)) (by rw [hd]; decide)
          obtain ⟨c0, c1⟩ := And.intro (cell_up hB q0) (cell_up hB q1)
          have HF : Hid _ := (And.intro hl (And.intro hB (And.intro f0 (And.intro f1 (And.intro f2 (And.intro f3 (And.intro f4 (And.intro f5 (And.intro f6 (And.intro f7 (And.intro f8 (And.intro f9 (And.intro f10 (And.intro f11 f12))))))))))))))
          clear f0 f1 f2 f3 f4 f5 f6 f7 f8 f9 f10 f11 f12 hB hdp hl hd
          refine Opn.mk ?_
          simp only [Act.put, List.setIfInBounds_toArray, List.set_cons_zero, List.set_cons_succ]
          go_simp
          obtain ⟨hl, hB, f0, f1, f2, f3, f4, f5, f6, f7, f8, f9, f10, f11, f12⟩ := HF.out
          exact hK.out _ _ ⟨.agg #[.int .i64 k, .int .i64 c], x16, x17, x18, x19, x20, x21, x22, x23, x24, x25, x26, x27, (by simp only [Act.put, List.setIfInBounds_toArray, List.set_cons_zero, List.set_cons_succ]), .inl ⟨by rw [upd_no (by decide)]; exact hl, hB.trans (Below.mono (Below.refl w'.heap.size w') hB.size), (fun _ => fun _ _ => rfl), (fun h1 => by first | exact (f1 (upd_ne h1 (by decide))).up (Below.refl w'.heap.size w') | exact fun _ _ => rfl), (fun h2 => by first | exact (f2 (upd_ne h2 (by decide))).up (Below.refl w'.heap.size w') | exact fun _ _ => rfl), (fun h3 => by first | exact (f3 (upd_ne h3 (by decide))).up (Below.refl w'.heap.size w') | exact fun _ _ => rfl), (fun h4 => by first | exact (f4 (upd_ne h4 (by decide))).up (Below.refl w'.heap.size w') | exact fun _ _ => rfl), (fun h5 => by first | exact (f5 (upd_ne h5 (by decide))).up (Below.refl w'.heap.size w') | exact fun _ _ => rfl), (fun h6 => by first | exact (f6 (upd_ne h6 (by decide))).up (Below.refl w'.heap.size w') | exact fun _ _ => rfl), (fun h7 => by first | exact (f7 (upd_ne h7 (by decide))).up (Below.refl w'.heap.size w') | exact fun _ _ => rfl), (fun h8 => by first | exact (f8 (upd_ne h8 (by decide))).up (Below.refl w'.heap.size w') | exact fun _ _ => rfl), (fun h9 => by first | exact (f9 (upd_ne h9 (by decide))).up (Below.refl w'.heap.size w') | exact fun _ _ => rfl), (fun h10 => by first | exact (f10 (upd_ne h10 (by decide))).up (Below.refl w'.heap.size w') | exact fun _ _ => rfl), (fun h11 => by first | exact (f11 (upd_ne h11 (by decide))).up (Below.refl w'.heap.size w') | exact fun _ _ => rfl), (fun h12 => by first | exact (f12 (upd_ne h12 (by decide))).up (Below.refl w'.heap.size w') | exact fun _ _ => rfl)⟩⟩
        · rintro d a w' ⟨x15, x16, x17, x18, x19, x20, x21, x22, x23, x24, x25, x26, x27, rfl, ⟨hl, hB, f0, f1, f2, f3, f4, f5, f6, f7, f8, f9, f10, f11, f12⟩ | ⟨hall, -⟩⟩ hd hdp K hK
          case inr => exact absurd (hall 1 (by decide)) (by rw [hd]; decide)
          obtain ⟨c0, c1, c2, -⟩ := bx5.up hB
          have HF : Hid _ := (And.intro hl (And.intro hB (And.intro f0 (And.intro f1 (And.intro f2 (And.intro f3 (And.intro f4 (And.intro f5 (And.intro f6 (And.intro f7 (And.intro f8 (And.intro f9 (And.intro f10 (And.intro f11 f12))))))))))))))
          clear f0 f1 f2 f3 f4 f5 f6 f7 f8 f9 f10 f11 f12 hB hdp hl hd
          refine Opn.mk ?_
          simp only [Act.put, List.setIfInBounds_toArray, List.set_cons_zero, List.set_cons_succ]
          go_simp
          obtain ⟨hl, hB, f0, f1, f2, f3, f4, f5, f6, f7, f8, f9, f10, f11, f12⟩ := HF.out
          exact hK.out _ _ ⟨x15, .agg #[.int .u64 rn, .int .i64 rv, .slice a5 n5 c5], x17, x18, x19, x20, x21, x22, x23, x24, x25, x26, x27, (by simp only [Act.put, List.setIfInBounds_toArray, List.set_cons_zero, List.set_cons_succ]), .inl ⟨by rw [upd_no (by decide)]; exact hl, hB.trans (Below.mono (Below.refl w'.heap.size w') hB.size), (fun h0 => by first | exact (f0 (upd_ne h0 (by decide))).up (Below.refl w'.heap.size w') | exact fun _ _ => rfl), (fun _ => fun _ _ => rfl), (fun h2 => by first | exact (f2 (upd_ne h2 (by decide))).up (Below.refl w'.heap.size w') | exact fun _ _ => rfl), (fun h3 => by first | exact (f3 (upd_ne h3 (by decide))).up (Below.refl w'.heap.size w') | exact fun _ _ => rfl), (fun h4 => by first | exact (f4 (upd_ne h4 (by decide))).up (Below.refl w'.heap.size w') | exact fun _ _ => rfl), (fun h5 => by first | exact (f5 (upd_ne h5 (by decide))).up (Below.refl w'.heap.size w') | exact fun _ _ => rfl), (fun h6 => by first | exact (f6 (upd_ne h6 (by decide))).up (Below.refl w'.heap.size w') | exact fun _ _ => rfl), (fun h7 => by first | exact (f7 (upd_ne h7 (by decide))).up (Below.refl w'.heap.size w') | exact fun _ _ => rfl), (fun h8 => by first | exact (f8 (upd_ne h8 (by decide))).up (Below.refl w'.heap.size w') | exact fun _ _ => rfl), (fun h9 => by first | exact (f9 (upd_ne h9 (by decide))).up (Below.refl w'.heap.size w') | exact fun _ _ => rfl), (fun h10 => by first | exact (f10 (upd_ne h10 (by decide))).up (Below.refl w'.heap.size w') | exact fun _ _ => rfl), (fun h11 => by first | exact (f11 (upd_ne h11 (by decide))).up (Below.refl w'.heap.size w') | exact fun _ _ => rfl), (fun h12 => by first | exact (f12 (upd_ne h12 (by decide))).up (Below.refl w'.heap.size w') | exact fun _ _ => rfl)⟩⟩
        · rintro d a w' ⟨x15, x16, x17, x18, x19, x20, x21, x22, x23, x24, x25, x26, x27, rfl, ⟨hl, hB, f0, f1, f2, f3, f4, f5, f6, f7, f8, f9, f10, f11, f12⟩ | ⟨hall, -⟩⟩ hd hdp K hK
          case inr => exact absurd (hall 2 (by decide)) (by rw [hd]; decide)
          skip
          have HF : Hid _ := (And.intro hl (And.intro hB (And.intro f0 (And.intro f1 (And.intro f2 (And.intro f3 (And.intro f4 (And.intro f5 (And.intro f6 (And.intro f7 (And.intro f8 (And.intro f9 (And.intro f10 (And.intro f11 f12))))))))))))))
          clear f0 f1 f2 f3 f4 f5 f6 f7 f8 f9 f10 f11 f12 hB hdp hl hd
          refine Opn.mk ?_
          simp only [Act.put, List.setIfInBounds_toArray, List.set_cons_zero, List.set_cons_succ]
          go_simp
          obtain ⟨hl, hB, f0, f1, f2, f3, f4, f5, f6, f7, f8, f9, f10, f11, f12⟩ := HF.out
          exact hK.out _ _ ⟨x15, x16, .slice (some ⟨b, off, none⟩) n cap, x18, x19, x20, x21, x22, x23, x24, x25, x26, x27, (by simp only [Act.put, List.setIfInBounds_toArray, List.set_cons_zero, List.set_cons_succ]), .inl ⟨by rw [upd_no (by decide)]; exact hl, hB.trans (Below.mono (Below.refl w'.heap.size w') hB.size), (fun h0 => by first | exact (f0 (upd_ne h0 (by decide))).up (Below.refl w'.heap.size w') | exact fun _ _ => rfl), (fun h1 => by first | exact (f1 (upd_ne h1 (by decide))).up (Below.refl w'.heap.size w') | exact fun _ _ => rfl), (fun _ => fun _ _ => rfl), (fun h3 => by first | exact (f3 (upd_ne h3 (by decide))).up (Below.refl w'.heap.size w') | exact fun _ _ => rfl), (fun h4 => by first | exact (f4 (upd_ne h4 (by decide))).up (Below.refl w'.heap.size w') | exact fun _ _ => rfl), (fun h5 => by first | exact (f5 (upd_ne h5 (by decide))).up (Below.refl w'.heap.size w') | exact fun _ _ => rfl), (fun h6 => by first | exact (f6 (upd_ne h6 (by decide))).up (Below.refl w'.heap.size w') | exact fun _ _ => rfl), (fun h7 => by first | exact (f7 (upd_ne h7 (by decide))).up (Below.refl w'.heap.size w') | exact fun _ _ => rfl), (fun h8 => by first | exact (f8 (upd_ne h8 (by decide))).up (Below.refl w'.heap.size w') | exact fun _ _ => rfl), (fun h9 => by first | exact (f9 (upd_ne h9 (by decide))).up (Below.refl w'.heap.size w') | exact fun _ _ => rfl), (fun h10 => by first | exact (f10 (upd_ne h10 (by decide))).up (Below.refl w'.heap.size w') | exact fun _ _ => rfl), (fun h11 => by first | exact (f11 (upd_ne h11 (by decide))).up (Below.refl w'.heap.size w') | exact fun _ _ => rfl), (fun h12 => by first | exact (f12 (upd_ne h12 (by decide))).up (Below.refl w'.heap.size w') | exact fun _ _ => rfl)⟩⟩
        · rintro d a w' ⟨x15, x16, x17, x18, x19, x20, x21, x22, x23, x24, x25, x26, x27, rfl, ⟨hl, hB, f0, f1, f2, f3, f4, f5, f6, f7, f8, f9, f10, f11, f12⟩ | ⟨hall, -⟩⟩ hd hdp K hK
          case inr => exact absurd (hall 3 (by decide)) (by rw [hd]; decide)
          skip
          have HF : Hid _ := (And.intro hl (And.intro hB (And.intro f0 (And.intro f1 (And.intro f2 (And.intro f3 (And.intro f4 (And.intro f5 (And.intro f6 (And.intro f7 (And.intro f8 (And.intro f9 (And.intro f10 (And.intro f11 f12))))))))))))))
          clear f0 f1 f2 f3 f4 f5 f6 f7 f8 f9 f10 f11 f12 hB hdp hl hd
          refine Opn.mk ?_
          simp only [Act.put, List.setIfInBounds_toArray, List.set_cons_zero, List.set_cons_succ]
          go_simp
          obtain ⟨hl, hB, f0, f1, f2, f3, f4, f5, f6, f7, f8, f9, f10, f11, f12⟩ := HF.out
          exact hK.out _ _ ⟨x15, x16, x17, .int .i64 (i : Int), x19, x20, x21, x22, x23, x24, x25, x26, x27, (by simp only [Act.put, List.setIfInBounds_toArray, List.set_cons_zero, List.set_cons_succ]), .inl ⟨by rw [upd_no (by decide)]; exact hl, hB.trans (Below.mono (Below.refl w'.heap.size w') hB.size), (fun h0 => by first | exact (f0 (upd_ne h0 (by decide))).up (Below.refl w'.heap.size w') | exact fun _ _ => rfl), (fun h1 => by first | exact (f1 (upd_ne h1 (by decide))).up (Below.refl w'.heap.size w') | exact fun _ _ => rfl), (fun h2 => by first | exact (f2 (upd_ne h2 (by decide))).up (Below.refl w'.heap.size w') | exact fun _ _ => rfl), (fun _ => fun _ _ => rfl), (fun h4 => by first | exact (f4 (upd_ne h4 (by decide))).up (Below.refl w'.heap.size w') | exact fun _ _ => rfl), (fun h5 => by first | exact (f5 (upd_ne h5 (by decide))).up (Below.refl w'.heap.size w') | exact fun _ _ => rfl), (fun h6 => by first | exact (f6 (upd_ne h6 (by decide))).up (Below.refl w'.heap.size w') | exact fun _ _ => rfl), (fun h7 => by first | exact (f7 (upd_ne h7 (by decide))).up (Below.refl w'.heap.size w') | exact fun _ _ => rfl), (fun h8 => by first | exact (f8 (upd_ne h8 (by decide))).up (Below.refl w'.heap.size w') | exact fun _ _ => rfl), (fun h9 => by first | exact (f9 (upd_ne h9 (by decide))).up (Below.refl w'.heap.size w') | exact fun _ _ => rfl), (fun h10 => by first | exact (f10 (upd_ne h10 (by decide))).up (Below.refl w'.heap.size w') | exact fun _ _ => rfl), (fun h11 => by first | exact (f11 (upd_ne h11 (by decide))).up (Below.refl w'.heap.size w') | exact fun _ _ => rfl), (fun h12 => by first | exact (f12 (upd_ne h12 (by decide))).up (Below.refl w'.heap.size w') | exact fun _ _ => rfl)⟩⟩
        · rintro d a w' ⟨x15, x16, x17, x18, x19, x20, x21, x22, x23, x24, x25, x26, x27, rfl, ⟨hl, hB, f0, f1, f2, f3, f4, f5, f6, f7, f8, f9, f10, f11, f12⟩ | ⟨hall, -⟩⟩ hd hdp K hK
          case inr => exact absurd (hall 4 (by decide)) (by rw [hd]; decide)
          obtain rfl := (f2 (hdp 2 (by decide +kernel))).now
          obtain rfl := (f3 (hdp 3 (by decide +kernel))).now
          have HF : Hid _ := (And.intro hl (And.intro hB (And.intro f0 (And.intro f1 (And.intro f2 (And.intro f3 (And.intro f4 (And.intro f5 (And.intro f6 (And.intro f7 (And.intro f8 (And.intro f9 (And.intro f10 (And.intro f11 f12))))))))))))))
          clear f0 f1 f2 f3 f4 f5 f6 f7 f8 f9 f10 f11 f12 hB hdp hl hd
          refine Opn.mk ?_
          simp only [Act.put, List.setIfInBounds_toArray, List.set_cons_zero, List.set_cons_succ]
          go_simp
          obtain ⟨hl, hB, f0, f1, f2, f3, f4, f5, f6, f7, f8, f9, f10, f11, f12⟩ := HF.out
          exact hK.out _ _ ⟨x15, x16, .slice (some ⟨b, off, none⟩) n cap, .int .i64 (i : Int), .pointer (some ⟨b, off + i * 4, none⟩), x20, x21, x22, x23, x24, x25, x26, x27, (by simp only [Act.put, List.setIfInBounds_toArray, List.set_cons_zero, List.set_cons_succ]), .inl ⟨by rw [upd_no (by decide)]; exact hl, hB.trans (Below.mono (Below.refl w'.heap.size w') hB.size), (fun h0 => by first | exact (f0 (upd_ne h0 (by decide))).up (Below.refl w'.heap.size w') | exact fun _ _ => rfl), (fun h1 => by first | exact (f1 (upd_ne h1 (by decide))).up (Below.refl w'.heap.size w') | exact fun _ _ => rfl), (fun h2 => by first | exact (f2 (upd_ne h2 (by decide))).up (Below.refl w'.heap.size w') | exact fun _ _ => rfl), (fun h3 => by first | exact (f3 (upd_ne h3 (by decide))).up (Below.refl w'.heap.size w') | exact fun _ _ => rfl), (fun _ => fun _ _ => rfl), (fun h5 => by first | exact (f5 (upd_ne h5 (by decide))).up (Below.refl w'.heap.size w') | exact fun _ _ => rfl), (fun h6 => by first | exact (f6 (upd_ne h6 (by decide))).up (Below.refl w'.heap.size w') | exact fun _ _ => rfl), (fun h7 => by first | exact (f7 (upd_ne h7 (by decide))).up (Below.refl w'.heap.size w') | exact fun _ _ => rfl), (fun h8 => by first | exact (f8 (upd_ne h8 (by decide))).up (Below.refl w'.heap.size w') | exact fun _ _ => rfl), (fun h9 => by first | exact (f9 (upd_ne h9 (by decide))).up (Below.refl w'.heap.size w') | exact fun _ _ => rfl), (fun h10 => by first | exact (f10 (upd_ne h10 (by decide))).up (Below.refl w'.heap.size w') | exact fun _ _ => rfl), (fun h11 => by first | exact (f11 (upd_ne h11 (by decide))).up (Below.refl w'.heap.size w') | exact fun _ _ => rfl), (fun h12 => by first | exact (f12 (upd_ne h12 (by decide))).up (Below.refl w'.heap.size w') | exact fun _ _ => rfl)⟩⟩
        · rintro d a w' ⟨x15, x16, x17, x18, x19, x20, x21, x22, x23, x24, x25, x26, x27, rfl, ⟨hl, hB, f0, f1, f2, f3, f4, f5, f6, f7, f8, f9, f10, f11, f12⟩ | ⟨hall, -⟩⟩ hd hdp K hK
          case inr => exact absurd (hall 5 (by decide)) (by rw [hd]; decide)
          obtain rfl := (f4 (hdp 4 (by decide +kernel))).now
          have HF : Hid _ := (And.intro hl (And.intro hB (And.intro f0 (And.intro f1 (And.intro f2 (And.intro f3 (And.intro f4 (And.intro f5 (And.intro f6 (And.intro f7 (And.intro f8 (And.intro f9 (And.intro f10 (And.intro f11 f12))))))))))))))
          clear f0 f1 f2 f3 f4 f5 f6 f7 f8 f9 f10 f11 f12 hB hdp hl hd
          refine Opn.mk ?_
          simp only [Act.put, List.setIfInBounds_toArray, List.set_cons_zero, List.set_cons_succ]
          go_simp
          obtain ⟨hl, hB, f0, f1, f2, f3, f4, f5, f6, f7, f8, f9, f10, f11, f12⟩ := HF.out
          exact hK.out _ _ ⟨x15, x16, x17, x18, .pointer (some ⟨b, off + i * 4, none⟩), .pointer (some ⟨b, off + i * 4, none⟩), x21, x22, x23, x24, x25, x26, x27, (by simp only [Act.put, List.setIfInBounds_toArray, List.set_cons_zero, List.set_cons_succ]), .inl ⟨by rw [upd_no (by decide)]; exact hl, hB.trans (Below.mono (Below.refl w'.heap.size w') hB.size), (fun h0 => by first | exact (f0 (upd_ne h0 (by decide))).up (Below.refl w'.heap.size w') | exact fun _ _ => rfl), (fun h1 => by first | exact (f1 (upd_ne h1 (by decide))).up (Below.refl w'.heap.size w') | exact fun _ _ => rfl), (fun h2 => by first | exact (f2 (upd_ne h2 (by decide))).up (Below.refl w'.heap.size w') | exact fun _ _ => rfl), (fun h3 => by first | exact (f3 (upd_ne h3 (by decide))).up (Below.refl w'.heap.size w') | exact fun _ _ => rfl), (fun h4 => by first | exact (f4 (upd_ne h4 (by decide))).up (Below.refl w'.heap.size w') | exact fun _ _ => rfl), (fun _ => fun _ _ => rfl), (fun h6 => by first | exact (f6 (upd_ne h6 (by decide))).up (Below.refl w'.heap.size w') | exact fun _ _ => rfl), (fun h7 => by first | exact (f7 (upd_ne h7 (by decide))).up (Below.refl w'.heap.size w') | exact fun _ _ => rfl), (fun h8 => by first | exact (f8 (upd_ne h8 (by decide))).up (Below.refl w'.heap.size w') | exact fun _ _ => rfl), (fun h9 => by first | exact (f9 (upd_ne h9 (by decide))).up (Below.refl w'.heap.size w') | exact fun _ _ => rfl), (fun h10 => by first | exact (f10 (upd_ne h10 (by decide))).up (Below.refl w'.heap.size w') | exact fun _ _ => rfl), (fun h11 => by first | exact (f11 (upd_ne h11 (by decide))).up (Below.refl w'.heap.size w') | exact fun _ _ => rfl), (fun h12 => by first | exact (f12 (upd_ne h12 (by decide))).up (Below.refl w'.heap.size w') | exact fun _ _ => rfl)⟩⟩
        · rintro d a w' ⟨x15, x16, x17, x18, x19, x20, x21, x22, x23, x24, x25, x26, x27, rfl, ⟨hl, hB, f0, f1, f2, f3, f4, f5, f6, f7, f8, f9, f10, f11, f12⟩ | ⟨hall, -⟩⟩ hd hdp K hK
          case inr => exact absurd (hall 6 (by decide)) (by rw [hd]; decide)
          obtain rfl := (f5 (hdp 5 (by decide +kernel))).now
          obtain ⟨c0, c1, c2⟩ := And.intro (cell_up hB t0) (And.intro (cell_up hB t1) (cell_up hB t2))
          have HF : Hid _ := (And.intro hl (And.intro hB (And.intro f0 (And.intro f1 (And.intro f2 (And.intro f3 (And.intro f4 (And.intro f5 (And.intro f6 (And.intro f7 (And.intro f8 (And.intro f9 (And.intro f10 (And.intro f11 f12))))))))))))))
          clear f0 f1 f2 f3 f4 f5 f6 f7 f8 f9 f10 f11 f12 hB hdp hl hd
          refine Opn.mk ?_
          simp only [Act.put, List.setIfInBounds_toArray, List.set_cons_zero, List.set_cons_succ]
          go_simp
          obtain ⟨hl, hB, f0, f1, f2, f3, f4, f5, f6, f7, f8, f9, f10, f11, f12⟩ := HF.out
          exact hK.out _ _ ⟨x15, x16, x17, x18, x19, .pointer (some ⟨b, off + i * 4, none⟩), .agg #[.int .i64 tt, .slice aD nD cD, .slice aM nM cM], x22, x23, x24, x25, x26, x27, (by simp only [Act.put, List.setIfInBounds_toArray, List.set_cons_zero, List.set_cons_succ]), .inl ⟨by rw [upd_no (by decide)]; exact hl, hB.trans (Below.mono (Below.refl w'.heap.size w') hB.size), (fun h0 => by first | exact (f0 (upd_ne h0 (by decide))).up (Below.refl w'.heap.size w') | exact fun _ _ => rfl), (fun h1 => by first | exact (f1 (upd_ne h1 (by decide))).up (Below.refl w'.heap.size w') | exact fun _ _ => rfl), (fun h2 => by first | exact (f2 (upd_ne h2 (by decide))).up (Below.refl w'.heap.size w') | exact fun _ _ => rfl), (fun h3 => by first | exact (f3 (upd_ne h3 (by decide))).up (Below.refl w'.heap.size w') | exact fun _ _ => rfl), (fun h4 => by first | exact (f4 (upd_ne h4 (by decide))).up (Below.refl w'.heap.size w') | exact fun _ _ => rfl), (fun h5 => by first | exact (f5 (upd_ne h5 (by decide))).up (Below.refl w'.heap.size w') | exact fun _ _ => rfl), (fun _ => fun _ _ => rfl), (fun h7 => by first | exact (f7 (upd_ne h7 (by decide))).up (Below.refl w'.heap.size w') | exact fun _ _ => rfl), (fun h8 => by first | exact (f8 (upd_ne h8 (by decide))).up (Below.refl w'.heap.size w') | exact fun _ _ => rfl), (fun h9 => by first | exact (f9 (upd_ne h9 (by decide))).up (Below.refl w'.heap.size w') | exact fun _ _ => rfl), (fun h10 => by first | exact (f10 (upd_ne h10 (by decide))).up (Below.refl w'.heap.size w') | exact fun _ _ => rfl), (fun h11 => by first | exact (f11 (upd_ne h11 (by decide))).up (Below.refl w'.heap.size w') | exact fun _ _ => rfl), (fun h12 => by first | exact (f12 (upd_ne h12 (by decide))).up (Below.refl w'.heap.size w') | exact fun _ _ => rfl)⟩⟩
        · rintro d a w' ⟨x15, x16, x17, x18, x19, x20, x21, x22, x23, x24, x25, x26, x27, rfl, ⟨hl, hB, f0, f1, f2, f3, f4, f5, f6, f7, f8, f9, f10, f11, f12⟩ | ⟨hall, -⟩⟩ hd hdp K hK
          case inr => exact absurd (hall 7 (by decide)) (by rw [hd]; decide)
          skip
          have HF : Hid _ := (And.intro hl (And.intro hB (And.intro f0 (And.intro f1 (And.intro f2 (And.intro f3 (And.intro f4 (And.intro f5 (And.intro f6 (And.intro f7 (And.intro f8 (And.intro f9 (And.intro f10 (And.intro f11 f12))))))))))))))
          clear f0 f1 f2 f3 f4 f5 f6 f7 f8 f9 f10 f11 f12 hB hdp hl hd
          refine Opn.mk ?_
          simp only [Act.put, List.setIfInBounds_toArray, List.set_cons_zero, List.set_cons_succ]
          go_simp
          obtain ⟨hl, hB, f0, f1, f2, f3, f4, f5, f6, f7, f8, f9, f10, f11, f12⟩ := HF.out
          exact hK.out _ _ ⟨x15, x16, x17, x18, x19, x20, x21, .slice (some ⟨b, off, none⟩) n cap, x23, x24, x25, x26, x27, (by simp only [Act.put, List.setIfInBounds_toArray, List.set_cons_zero, List.set_cons_succ]), .inl ⟨by rw [upd_no (by decide)]; exact hl, hB.trans (Below.mono (Below.refl w'.heap.size w') hB.size), (fun h0 => by first | exact (f0 (upd_ne h0 (by decide))).up (Below.refl w'.heap.size w') | exact fun _ _ => rfl), (fun h1 => by first | exact (f1 (upd_ne h1 (by decide))).up (Below.refl w'.heap.size w') | exact fun _ _ => rfl), (fun h2 => by first | exact (f2 (upd_ne h2 (by decide))).up (Below.refl w'.heap.size w') | exact fun _ _ => rfl), (fun h3 => by first | exact (f3 (upd_ne h3 (by decide))).up (Below.refl w'.heap.size w') | exact fun _ _ => rfl), (fun h4 => by first | exact (f4 (upd_ne h4 (by decide))).up (Below.refl w'.heap.size w') | exact fun _ _ => rfl), (fun h5 => by first | exact (f5 (upd_ne h5 (by decide))).up (Below.refl w'.heap.size w') | exact fun _ _ => rfl), (fun h6 => by first | exact (f6 (upd_ne h6 (by decide))).up (Below.refl w'.heap.size w') | exact fun _ _ => rfl), (fun _ => fun _ _ => rfl), (fun h8 => by first | exact (f8 (upd_ne h8 (by decide))).up (Below.refl w'.heap.size w') | exact fun _ _ => rfl), (fun h9 => by first | exact (f9 (upd_ne h9 (by decide))).up (Below.refl w'.heap.size w') | exact fun _ _ => rfl), (fun h10 => by first | exact (f10 (upd_ne h10 (by decide))).up (Below.refl w'.heap.size w') | exact fun _ _ => rfl), (fun h11 => by first | exact (f11 (upd_ne h11 (by decide))).up (Below.refl w'.heap.size w') | exact fun _ _ => rfl), (fun h12 => by first | exact (f12 (upd_ne h12 (by decide))).up (Below.refl w'.heap.size w') | exact fun _ _ => rfl)⟩⟩
        · rintro d a w' ⟨x15, x16, x17, x18, x19, x20, x21, x22, x23, x24, x25, x26, x27, rfl, ⟨hl, hB, f0, f1, f2, f3, f4, f5, f6, f7, f8, f9, f10, f11, f12⟩ | ⟨hall, -⟩⟩ hd hdp K hK
          case inr => exact absurd (hall 8 (by decide)) (by rw [hd]; decide)
          skip
          have HF : Hid _ := (And.intro hl (And.intro hB (And.intro f0 (And.intro f1 (And.intro f2 (And.intro f3 (And.intro f4 (And.intro f5 (And.intro f6 (And.intro f7 (And.intro f8 (And.intro f9 (And.intro f10 (And.intro f11 f12))))))))))))))
          clear f0 f1 f2 f3 f4 f5 f6 f7 f8 f9 f10 f11 f12 hB hdp hl hd
          refine Opn.mk ?_
          simp only [Act.put, List.setIfInBounds_toArray, List.set_cons_zero, List.set_cons_succ]
          go_simp
          obtain ⟨hl, hB, f0, f1, f2, f3, f4, f5, f6, f7, f8, f9, f10, f11, f12⟩ := HF.out
          exact hK.out _ _ ⟨x15, x16, x17, x18, x19, x20, x21, x22, .int .i64 (i : Int), x24, x25, x26, x27, (by simp only [Act.put, List.setIfInBounds_toArray, List.set_cons_zero, List.set_cons_succ]), .inl ⟨by rw [upd_no (by decide)]; exact hl, hB.trans (Below.mono (Below.refl w'.heap.size w') hB.size), (fun h0 => by first | exact (f0 (upd_ne h0 (by decide))).up (Below.refl w'.heap.size w') | exact fun _ _ => rfl), (fun h1 => by first | exact (f1 (upd_ne h1 (by decide))).up (Below.refl w'.heap.size w') | exact fun _ _ => rfl), (fun h2 => by first | exact (f2 (upd_ne h2 (by decide))).up (Below.refl w'.heap.size w') | exact fun _ _ => rfl), (fun h3 => by first | exact (f3 (upd_ne h3 (by decide))).up (Below.refl w'.heap.size w') | exact fun _ _ => rfl), (fun h4 => by first | exact (f4 (upd_ne h4 (by decide))).up (Below.refl w'.heap.size w') | exact fun _ _ => rfl), (fun h5 => by first | exact (f5 (upd_ne h5 (by decide))).up (Below.refl w'.heap.size w') | exact fun _ _ => rfl), (fun h6 => by first | exact (f6 (upd_ne h6 (by decide))).up (Below.refl w'.heap.size w') | exact fun _ _ => rfl), (fun h7 => by first | exact (f7 (upd_ne h7 (by decide))).up (Below.refl w'.heap.size w') | exact fun _ _ => rfl), (fun _ => fun _ _ => rfl), (fun h9 => by first | exact (f9 (upd_ne h9 (by decide))).up (Below.refl w'.heap.size w') | exact fun _ _ => rfl), (fun h10 => by first | exact (f10 (upd_ne h10 (by decide))).up (Below.refl w'.heap.size w') | exact fun _ _ => rfl), (fun h11 => by first | exact (f11 (upd_ne h11 (by decide))).up (Below.refl w'.heap.size w') | exact fun _ _ => rfl), (fun h12 => by first | exact (f12 (upd_ne h12 (by decide))).up (Below.refl w'.heap.size w') | exact fun _ _ => rfl)⟩⟩
        · rintro d a w' ⟨x15, x16, x17, x18, x19, x20, x21, x22, x23, x24, x25, x26, x27, rfl, ⟨hl, hB, f0, f1, f2, f3, f4, f5, f6, f7, f8, f9, f10, f11, f12⟩ | ⟨hall, -⟩⟩ hd hdp K hK
          case inr => exact absurd (hall 9 (by decide)) (by rw [hd]; decide)
          obtain rfl := (f7 (hdp 7 (by decide +kernel))).now
          obtain rfl := (f8 (hdp 8 (by decide +kernel))).now
          have HF : Hid _ := (And.intro hl (And.intro hB (And.intro f0 (And.intro f1 (And.intro f2 (And.intro f3 (And.intro f4 (And.intro f5 (And.intro f6 (And.intro f7 (And.intro f8 (And.intro f9 (And.intro f10 (And.intro f11 f12))))))))))))))
          clear f0 f1 f2 f3 f4 f5 f6 f7 f8 f9 f10 f11 f12 hB hdp hl hd
          refine Opn.mk ?_
          simp only [Act.put, List.setIfInBounds_toArray, List.set_cons_zero, List.set_cons_succ]
          go_simp
          obtain ⟨hl, hB, f0, f1, f2, f3, f4, f5, f6, f7, f8, f9, f10, f11, f12⟩ := HF.out
          exact hK.out _ _ ⟨x15, x16, x17, x18, x19, x20, x21, .slice (some ⟨b, off, none⟩) n cap, .int .i64 (i : Int), .pointer (some ⟨b, off + i * 4, none⟩), x25, x26, x27, (by simp only [Act.put, List.setIfInBounds_toArray, List.set_cons_zero, List.set_cons_succ]), .inl ⟨by rw [upd_no (by decide)]; exact hl, hB.trans (Below.mono (Below.refl w'.heap.size w') hB.size), (fun h0 => by first | exact (f0 (upd_ne h0 (by decide))).up (Below.refl w'.heap.size w') | exact fun _ _ => rfl), (fun h1 => by first | exact (f1 (upd_ne h1 (by decide))).up (Below.refl w'.heap.size w') | exact fun _ _ => rfl), (fun h2 => by first | exact (f2 (upd_ne h2 (by decide))).up (Below.refl w'.heap.size w') | exact fun _ _ => rfl), (fun h3 => by first | exact (f3 (upd_ne h3 (by decide))).up (Below.refl w'.heap.size w') | exact fun _ _ => rfl), (fun h4 => by first | exact (f4 (upd_ne h4 (by decide))).up (Below.refl w'.heap.size w') | exact fun _ _ => rfl), (fun h5 => by first | exact (f5 (upd_ne h5 (by decide))).up (Below.refl w'.heap.size w') | exact fun _ _ => rfl), (fun h6 => by first | exact (f6 (upd_ne h6 (by decide))).up (Below.refl w'.heap.size w') | exact fun _ _ => rfl), (fun h7 => by first | exact (f7 (upd_ne h7 (by decide))).up (Below.refl w'.heap.size w') | exact fun _ _ => rfl), (fun h8 => by first | exact (f8 (upd_ne h8 (by decide))).up (Below.refl w'.heap.size w') | exact fun _ _ => rfl), (fun _ => fun _ _ => rfl), (fun h10 => by first | exact (f10 (upd_ne h10 (by decide))).up (Below.refl w'.heap.size w') | exact fun _ _ => rfl), (fun h11 => by first | exact (f11 (upd_ne h11 (by decide))).up (Below.refl w'.heap.size w') | exact fun _ _ => rfl), (fun h12 => by first | exact (f12 (upd_ne h12 (by decide))).up (Below.refl w'.heap.size w') | exact fun _ _ => rfl)⟩⟩
        · rintro d a w' ⟨x15, x16, x17, x18, x19, x20, x21, x22, x23, x24, x25, x26, x27, rfl, ⟨hl, hB, f0, f1, f2, f3, f4, f5, f6, f7, f8, f9, f10, f11, f12⟩ | ⟨hall, -⟩⟩ hd hdp K hK
          case inr => exact absurd (hall 10 (by decide)) (by rw [hd]; decide)
          obtain rfl := (f9 (hdp 9 (by decide +kernel))).now
          have HF : Hid _ := (And.intro hl (And.intro hB (And.intro f0 (And.intro f1 (And.intro f2 (And.intro f3 (And.intro f4 (And.intro f5 (And.intro f6 (And.intro f7 (And.intro f8 (And.intro f9 (And.intro f10 (And.intro f11 f12))))))))))))))
          clear f0 f1 f2 f3 f4 f5 f6 f7 f8 f9 f10 f11 f12 hB hdp hl hd
          refine Opn.mk ?_
          simp only [Act.put, List.setIfInBounds_toArray, List.set_cons_zero, List.set_cons_succ]
          go_simp
          obtain ⟨hl, hB, f0, f1, f2, f3, f4, f5, f6, f7, f8, f9, f10, f11, f12⟩ := HF.out
          exact hK.out _ _ ⟨x15, x16, x17, x18, x19, x20, x21, x22, x23, .pointer (some ⟨b, off + i * 4, none⟩), .pointer (some ⟨b, off + i * 4 + 3, none⟩), x26, x27, (by simp only [Act.put, List.setIfInBounds_toArray, List.set_cons_zero, List.set_cons_succ]), .inl ⟨by rw [upd_no (by decide)]; exact hl, hB.trans (Below.mono (Below.refl w'.heap.size w') hB.size), (fun h0 => by first | exact (f0 (upd_ne h0 (by decide))).up (Below.refl w'.heap.size w') | exact fun _ _ => rfl), (fun h1 => by first | exact (f1 (upd_ne h1 (by decide))).up (Below.refl w'.heap.size w') | exact fun _ _ => rfl), (fun h2 => by first | exact (f2 (upd_ne h2 (by decide))).up (Below.refl w'.heap.size w') | exact fun _ _ => rfl), (fun h3 => by first | exact (f3 (upd_ne h3 (by decide))).up (Below.refl w'.heap.size w') | exact fun _ _ => rfl), (fun h4 => by first | exact (f4 (upd_ne h4 (by decide))).up (Below.refl w'.heap.size w') | exact fun _ _ => rfl), (fun h5 => by first | exact (f5 (upd_ne h5 (by decide))).up (Below.refl w'.heap.size w') | exact fun _ _ => rfl), (fun h6 => by first | exact (f6 (upd_ne h6 (by decide))).up (Below.refl w'.heap.size w') | exact fun _ _ => rfl), (fun h7 => by first | exact (f7 (upd_ne h7 (by decide))).up (Below.refl w'.heap.size w') | exact fun _ _ => rfl), (fun h8 => by first | exact (f8 (upd_ne h8 (by decide))).up (Below.refl w'.heap.size w') | exact fun _ _ => rfl), (fun h9 => by first | exact (f9 (upd_ne h9 (by decide))).up (Below.refl w'.heap.size w') | exact fun _ _ => rfl), (fun _ => fun _ _ => rfl), (fun h11 => by first | exact (f11 (upd_ne h11 (by decide))).up (Below.refl w'.heap.size w') | exact fun _ _ => rfl), (fun h12 => by first | exact (f12 (upd_ne h12 (by decide))).up (Below.refl w'.heap.size w') | exact fun _ _ => rfl)⟩⟩
        · rintro d a w' ⟨x15, x16, x17, x18, x19, x20, x21, x22, x23, x24, x25, x26, x27, rfl, ⟨hl, hB, f0, f1, f2, f3, f4, f5, f6, f7, f8, f9, f10, f11, f12⟩ | ⟨hall, -⟩⟩ hd hdp K hK
          case inr => exact absurd (hall 11 (by decide)) (by rw [hd]; decide)
          obtain rfl := (f10 (hdp 10 (by decide +kernel))).now
          have c0 := cell_up hB t3
          have HF : Hid _ := (And.intro hl (And.intro hB (And.intro f0 (And.intro f1 (And.intro f2 (And.intro f3 (And.intro f4 (And.intro f5 (And.intro f6 (And.intro f7 (And.intro f8 (And.intro f9 (And.intro f10 (And.intro f11 f12))))))))))))))
          clear f0 f1 f2 f3 f4 f5 f6 f7 f8 f9 f10 f11 f12 hB hdp hl hd
          refine Opn.mk ?_
          simp only [Act.put, List.setIfInBounds_toArray, List.set_cons_zero, List.set_cons_succ]
          go_simp
          obtain ⟨hl, hB, f0, f1, f2, f3, f4, f5, f6, f7, f8, f9, f10, f11, f12⟩ := HF.out
          exact hK.out _ _ ⟨x15, x16, x17, x18, x19, x20, x21, x22, x23, x24, .pointer (some ⟨b, off + i * 4 + 3, none⟩), .int .u64 (nn : Int), x27, (by simp only [Act.put, List.setIfInBounds_toArray, List.set_cons_zero, List.set_cons_succ]), .inl ⟨by rw [upd_no (by decide)]; exact hl, hB.trans (Below.mono (Below.refl w'.heap.size w') hB.size), (fun h0 => by first | exact (f0 (upd_ne h0 (by decide))).up (Below.refl w'.heap.size w') | exact fun _ _ => rfl), (fun h1 => by first | exact (f1 (upd_ne h1 (by decide))).up (Below.refl w'.heap.size w') | exact fun _ _ => rfl), (fun h2 => by first | exact (f2 (upd_ne h2 (by decide))).up (Below.refl w'.heap.size w') | exact fun _ _ => rfl), (fun h3 => by first | exact (f3 (upd_ne h3 (by decide))).up (Below.refl w'.heap.size w') | exact fun _ _ => rfl), (fun h4 => by first | exact (f4 (upd_ne h4 (by decide))).up (Below.refl w'.heap.size w') | exact fun _ _ => rfl), (fun h5 => by first | exact (f5 (upd_ne h5 (by decide))).up (Below.refl w'.heap.size w') | exact fun _ _ => rfl), (fun h6 => by first | exact (f6 (upd_ne h6 (by decide))).up (Below.refl w'.heap.size w') | exact fun _ _ => rfl), (fun h7 => by first | exact (f7 (upd_ne h7 (by decide))).up (Below.refl w'.heap.size w') | exact fun _ _ => rfl), (fun h8 => by first | exact (f8 (upd_ne h8 (by decide))).up (Below.refl w'.heap.size w') | exact fun _ _ => rfl), (fun h9 => by first | exact (f9 (upd_ne h9 (by decide))).up (Below.refl w'.heap.size w') | exact fun _ _ => rfl), (fun h10 => by first | exact (f10 (upd_ne h10 (by decide))).up (Below.refl w'.heap.size w') | exact fun _ _ => rfl), (fun _ => fun _ _ => rfl), (fun h12 => by first | exact (f12 (upd_ne h12 (by decide))).up (Below.refl w'.heap.size w') | exact fun _ _ => rfl)⟩⟩
        · rintro d a w' ⟨x15, x16, x17, x18, x19, x20, x21, x22, x23, x24, x25, x26, x27, rfl, ⟨hl, hB, f0, f1, f2, f3, f4, f5, f6, f7, f8, f9, f10, f11, f12⟩ | ⟨hall, -⟩⟩ hd hdp K hK
          case inr => exact absurd (hall 12 (by decide)) (by rw [hd]; decide)
          obtain rfl := (f0 (hdp 0 (by decide +kernel))).now
          obtain rfl := (f1 (hdp 1 (by decide +kernel))).now
          obtain rfl := (f6 (hdp 6 (by decide +kernel))).now
          obtain rfl := (f11 (hdp 11 (by decide +kernel))).now
          have kP := HK.out w' hB
          unfold Gives at kP
          have HB5 : Hid (B5 < wr.heap.size) := bx5.lt
          have HF : Hid _ := (And.intro hl (And.intro hB (And.intro f0 (And.intro f1 (And.intro f2 (And.intro f3 (And.intro f4 (And.intro f5 (And.intro f6 (And.intro f7 (And.intro f8 (And.intro f9 (And.intro f10 (And.intro f11 f12))))))))))))))
          clear f0 f1 f2 f3 f4 f5 f6 f7 f8 f9 f10 f11 f12 hB hdp hl hd
          refine Opn.mk ?_
          simp only [Act.put, List.setIfInBounds_toArray, List.set_cons_zero, List.set_cons_succ]
          go_simp
          go_wp2_with (first | (go_at_call 23; with_reducible refine kP.mono ?_; rintro e5 w5 ⟨r, rfl, ok5, new5, hr5, b5⟩))
          obtain ⟨hl, hB, f0, f1, f2, f3, f4, f5, f6, f7, f8, f9, f10, f11, f12⟩ := HF.out
          exact hK.out _ _ ⟨.agg #[.int .i64 k, .int .i64 c], .agg #[.int .u64 rn, .int .i64 rv, .slice a5 n5 c5], x17, x18, x19, x20, .agg #[.int .i64 tt, .slice aD nD cD, .slice aM nM cM], x22, x23, x24, x25, .int .u64 (nn : Int), .agg #[.int .u64 r.n, .int .i64 r.v, r.tv], (by simp only [Act.put, List.setIfInBounds_toArray, List.set_cons_zero, List.set_cons_succ]), .inl ⟨by rw [upd_no (by decide)]; exact hl, hB.trans (Below.mono (b5) hB.size), (fun h0 => by first | exact (f0 (upd_ne h0 (by decide))).up (b5) | exact fun _ _ => rfl), (fun h1 => by first | exact (f1 (upd_ne h1 (by decide))).up (b5) | exact fun _ _ => rfl), (fun h2 => by first | exact (f2 (upd_ne h2 (by decide))).up (b5) | exact fun _ _ => rfl), (fun h3 => by first | exact (f3 (upd_ne h3 (by decide))).up (b5) | exact fun _ _ => rfl), (fun h4 => by first | exact (f4 (upd_ne h4 (by decide))).up (b5) | exact fun _ _ => rfl), (fun h5 => by first | exact (f5 (upd_ne h5 (by decide))).up (b5) | exact fun _ _ => rfl), (fun h6 => by first | exact (f6 (upd_ne h6 (by decide))).up (b5) | exact fun _ _ => rfl), (fun h7 => by first | exact (f7 (upd_ne h7 (by decide))).up (b5) | exact fun _ _ => rfl), (fun h8 => by first | exact (f8 (upd_ne h8 (by decide))).up (b5) | exact fun _ _ => rfl), (fun h9 => by first | exact (f9 (upd_ne h9 (by decide))).up (b5) | exact fun _ _ => rfl), (fun h10 => by first | exact (f10 (upd_ne h10 (by decide))).up (b5) | exact fun _ _ => rfl), (fun h11 => by first | exact (f11 (upd_ne h11 (by decide))).up (b5) | exact fun _ _ => rfl), (fun _ => fun X bX => ⟨r, rfl, hr5, fun u v z => ⟨new5.mono (Nat.le_trans HW1.out.size hB.size), (ok5.up bX).put3 new5 (Nat.lt_of_lt_of_le HB5.out hB.size) u v z⟩⟩)⟩⟩
        · rintro d a w' ⟨x15, x16, x17, x18, x19, x20, x21, x22, x23, x24, x25, x26, x27, rfl, ⟨hl, hB, f0, f1, f2, f3, f4, f5, f6, f7, f8, f9, f10, f11, f12⟩ | ⟨hall, -⟩⟩ hd hdp K hK
          case inr => exact absurd (hall 13 (by decide)) (by rw [hd]; decide)
          obtain ⟨r, e27, hr, okp⟩ := (f12 (hdp 12 (by decide +kernel))).now
          have hall : ∀ j, j < 14 → upd d 13 j = true := fun j hj => by
            rcases (by omega : j = 0 ∨ j = 1 ∨ j = 2 ∨ j = 3 ∨ j = 4 ∨ j = 5 ∨ j = 6 ∨ j = 7 ∨ j = 8 ∨ j = 9 ∨ j = 10 ∨ j = 11 ∨ j = 12 ∨ j = 13) with rfl | rfl | rfl | rfl | rfl | rfl | rfl | rfl | rfl | rfl | rfl | rfl | rfl | rfl
            all_goals first | rfl | (rw [upd_no (by decide)]; exact hdp _ (by decide +kernel))
          subst e27
          have bx := bx5.up hB
          have HP : Hid _ := bx.put (.int .u64 r.n) (.int .i64 r.v) r.tv
          have HOK : Hid _ := okp
          have HH : Hid _ := And.intro hall hr
          have hsl : ∃ a n c, r.tv = .slice a n c := (okp undef undef undef).2.rt.sl
          obtain ⟨zn, zv, ztv, zts⟩ := r
          obtain ⟨a7, n7, c7, hv7⟩ := hsl
          simp only at hv7
          subst hv7
          obtain ⟨y0, y1, y2, yf⟩ := bx
          clear hall hr okp
          have HF : Hid _ := (And.intro hl (And.intro hB (And.intro f0 (And.intro f1 (And.intro f2 (And.intro f3 (And.intro f4 (And.intro f5 (And.intro f6 (And.intro f7 (And.intro f8 (And.intro f9 (And.intro f10 (And.intro f11 f12))))))))))))))
          clear f0 f1 f2 f3 f4 f5 f6 f7 f8 f9 f10 f11 f12 hB hdp hl hd
          refine Opn.mk ?_
          simp only [Act.put, List.setIfInBounds_toArray, List.set_cons_zero, List.set_cons_succ]
          go_simp
          obtain ⟨hl, hB, f0, f1, f2, f3, f4, f5, f6, f7, f8, f9, f10, f11, f12⟩ := HF.out
          obtain ⟨hall, hr⟩ := HH.out
          exact hK.out _ _ ⟨x15, x16, x17, x18, x19, x20, x21, x22, x23, x24, x25, x26, .agg #[.int .u64 zn, .int .i64 zv, .slice a7 n7 c7], (by simp only [Act.put, List.setIfInBounds_toArray, List.set_cons_zero, List.set_cons_succ]), .inr ⟨hall, ⟨zn, zv, .slice a7 n7 c7, zts⟩, HP.out, (HOK.out _ _ _).2, hr, (HOK.out undef undef undef).1, below_put3 (HW1.out.trans (hB.mono HW1.out.size)) HB5W.out _ _ _⟩⟩
      · rintro d a' w' hall ⟨x15, x16, x17, x18, x19, x20, x21, x22, x23, x24, x25, x26, x27, rfl, hI⟩
        rcases hI with ⟨hl, -⟩ | ⟨-, r, bx, ok, hr, hnw, bW⟩
        · exact absurd (hall 13 (by decide)) (by rw [hl]; decide)
        have HX : Hid (∃ r : Pt, Box3 w' B5 (.int .u64 r.n) (.int .i64 r.v) r.tv ∧ r.Ok w' ∧ r.p0 = ofP k c (l.take (i + 1)) ∧ New W1.heap.size r.tv ∧ Below W1.heap.size W1 w') := ⟨r, bx, ok, by rw [hr, HJ.out], hnw, bW⟩
        clear bx ok hr bW hall q0 q1 t0 t1 t2 t3 bx5 hnw
        simp only [Act.put, List.setIfInBounds_toArray, List.set_cons_zero, List.set_cons_succ]
        go_wp2_with fail
        go_roundg (n - (i + 1))
        case measure => omega
        case rel => exact ⟨i + 1, by go_num, by omega, Nat.le_refl _, HX⟩
    · have hltz : ¬ (i : Int) < (n : Int) := by omega
      obtain ⟨r, bx5, okr, hr, hnr, hbw⟩ := HX0.out
      have hli : l.take i = l := List.take_of_length_le (by have := HN.out; omega)
      rw [hli] at hr
      obtain ⟨rn, rv, rtv, rts⟩ := r
      obtain ⟨a5, n5, c5, h5⟩ := okr.rt.sl
      simp only at h5
      subst h5
      have bx4 := HBX1.out.up hbw
      have HP : Hid _ := bx4.put (.int .u64 rn) (.int .i64 rv) (.slice a5 n5 c5)
      have HO : Hid (Pt.Ok wr ⟨rn, rv, .slice a5 n5 c5, rts⟩ ∧ (rn, rv, rts) = ofP k c l ∧ New W1.heap.size (.slice a5 n5 c5) ∧ Below W1.heap.size W1 wr) := ⟨okr, hr, hnr, hbw⟩
      obtain ⟨y0, y1, y2, yf⟩ := bx4
      simp only at bx5
      obtain ⟨z0, z1, z2, -⟩ := bx5
      clear okr hr hnr hbw hli
      go_wp2_with fail
      obtain ⟨Y, hY⟩ : ∃ Y, Y = put3 wr (w.heap.size + 1) (.int .u64 rn) (.int .i64 rv) (.slice a5 n5 c5) := ⟨_, rfl⟩
      have hb := HP.out
      rw [← hY] at hb
      rw [show ((wr.setCell ⟨w.heap.size + 1, 0, none⟩ (.int .u64 rn)).setCell ⟨w.heap.size + 1, 1, none⟩ (.int .i64 rv)).setCell ⟨w.heap.size + 1, 2, none⟩ (.slice a5 n5 c5) = Y from hY.symm]
      obtain ⟨x0, x1, x2, -⟩ := hb
      refine bodyPost_ret (by simp [results, Try.results16, go_sem, x0, x1, x2]; try rfl) rfl ?_
      obtain ⟨i0, i1, i2, i3⟩ := HO.out
      have hws := HWS.out
      have hgs := HG1.out.1.size
      refine ⟨⟨rn, rv, .slice a5 n5 c5, rts⟩, rfl, ?_, i2.mono (by omega), i1, ?_⟩
      · rw [hY]
        exact i0.put3 i2 (by omega) _ _ _
      · rw [hY]
        exact below_put3 (HG1.out.1.trans (i3.mono (by omega))) (by omega) _ _ _
end Go.Proofs.Ytkoihniggoelnaa
