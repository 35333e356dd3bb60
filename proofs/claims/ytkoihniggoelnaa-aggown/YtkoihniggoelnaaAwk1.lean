/- awake's first aggregators. -/
import Derived.Test.YtkoihniggoelnaaAwk
import Derived.Test.YtkoihniggoelnaaReg
namespace Go.Proofs.Ytkoihniggoelnaa
open Go.RowKit Go.Sort

set_option maxHeartbeats 8000000 in
theorem awake_any (w : World) : Calls Try.prog 10 #[] w fun e w' => e = .returned (.bool true) ∧ Below w.heap.size w w' := by
  obtain ⟨V, hV⟩ : ∃ V, V = w.alloc (.cells #[.int .i64 2, .int .i64 0] 26) := ⟨_, rfl⟩
  have hs : V.cell? ⟨w.heap.size, 0, none⟩ = some (.int .i64 2) ∧ V.cell? ⟨w.heap.size, 1, none⟩ = some (.int .i64 0) := by rw [hV]; exact ⟨al_new _ _ _ rfl rfl, al_new _ _ _ rfl rfl⟩
  have HWV : Hid (Below w.heap.size w V) := by rw [hV]; exact (Grows.alloc _ _).below
  have HV : Hid _ := hV
  have kA : ∀ (X : World) (B : Nat), X.cell? ⟨B, 0, none⟩ = some (.int .i64 3) → Calls Try.prog 23 #[.agg #[.int .i64 2, .int .i64 0], .agg #[.int .u64 0, .int .i64 0, .slice none 0 0], .agg #[.int .i64 0, .slice none 0 0, .slice (some ⟨B, 0, none⟩) 1 1], .int .u64 2] X (Gives (2, 6, []) X) := fun X B hX => by
    have := add_2 X ⟨0, 0, .slice none 0 0, []⟩ B 3 2 ⟨Rds.nil _⟩ rfl hX
    rw [show (Pt.mk 0 0 (.slice none 0 0) []).p0 = (0, 0, []) from rfl, add_2a] at this
    exact this
  unfold Gives at kA
  have mixed : Try.prog.follows .mixedOrders = true := by kernel_rfl
  clear hV
  go_enter Try.func10, Try.ntmps10
  go_wp2_with fail
  rw [← HV.out]
  go_cut [2] (fun t wA => ∃ B, t = .pointer (some ⟨B, 0, none⟩) ∧ Hid (∃ r : Pt, Box3 wA B (.int .u64 r.n) (.int .i64 r.v) r.tv ∧ r.Ok wA ∧ r.p0 = (2, 6, []) ∧ V.heap.size ≤ B ∧ Below V.heap.size V wA))
  case first =>
    refine wp_region_invA (fun a0 d a' w' => ∃ x2 x6 x7 x8 x9 x10 x11 : Value, a' = (((((((a0.put (some 2) x2).put (some 6) x6).put (some 7) x7).put (some 8) x8).put (some 9) x9).put (some 10) x10).put (some 11) x11) ∧ ((d 7 = false ∧ Below V.heap.size V w' ∧ (d 0 = true → Evr w' (fun _ => x6 = .agg #[.int .i64 2, .int .i64 0])) ∧ (d 1 = true → Evr w' (fun _ => x7 = .agg #[.int .i64 2, .int .i64 0])) ∧ (d 2 = true → Evr w' (fun _ => x8 = .agg #[.int .u64 0, .int .i64 0, .slice none 0 0])) ∧ (d 3 = true → Evr w' (fun X => ∃ B, x9 = .slice (some ⟨B, 0, none⟩) 1 1 ∧ X.cell? ⟨B, 0, none⟩ = some (.int .i64 3))) ∧ (d 4 = true → Evr w' (fun X => ∃ B, x10 = .agg #[.int .i64 0, .slice none 0 0, .slice (some ⟨B, 0, none⟩) 1 1] ∧ X.cell? ⟨B, 0, none⟩ = some (.int .i64 3))) ∧ (d 5 = true → Evr w' (fun X => ∃ r : Pt, x11 = .agg #[.int .u64 r.n, .int .i64 r.v, r.tv] ∧ r.p0 = (2, 6, []) ∧ r.Ok X)) ∧ (d 6 = true → Evr w' (fun X => ∃ B, x2 = .pointer (some ⟨B, 0, none⟩) ∧ V.heap.size ≤ B ∧ Box3 X B (.int .u64 0) (.int .i64 0) (.slice none 0 0))) ∧ (d 5 = true → d 6 = true → Evr w' (fun X => ∃ (r : Pt) (B : Nat), x11 = .agg #[.int .u64 r.n, .int .i64 r.v, r.tv] ∧ x2 = .pointer (some ⟨B, 0, none⟩) ∧ r.p0 = (2, 6, []) ∧ ∀ u v z, r.Ok (put3 X B u v z)))) ∨ ((∀ j, j < 8 → d j = true) ∧ ∃ (r : Pt) (B : Nat), x2 = .pointer (some ⟨B, 0, none⟩) ∧ Box3 w' B (.int .u64 r.n) (.int .i64 r.v) r.tv ∧ r.Ok w' ∧ r.p0 = (2, 6, []) ∧ V.heap.size ≤ B ∧ Below V.heap.size V w'))) mixed (by kernel_rfl) ?_ ?_ ?_
    · exact ⟨undef, undef, undef, undef, undef, undef, undef, (by simp only [Act.put, List.setIfInBounds_toArray, List.set_cons_zero, List.set_cons_succ]), .inl ⟨rfl, below_dN (Below.refl _ _) 1, (fun h => by cases h), (fun h => by cases h), (fun h => by cases h), (fun h => by cases h), (fun h => by cases h), (fun h => by cases h), (fun h => by cases h), (fun h => by cases h)⟩⟩
    · refine ⟨?_, ?_, ?_, ?_, ?_, ?_, ?_, ?_, trivial⟩
      · rintro d a w' ⟨x2, x6, x7, x8, x9, x10, x11, rfl, ⟨hl, hB, f0, f1, f2, f3, f4, f5, f6, f7⟩ | ⟨hall, -⟩⟩ hd hdp K hK
        case inr => exact absurd (hall 0 (by decide)) (by rw [hd]; decide)
        have c0 := cell_up hB hs.1
        have c1 := cell_up hB hs.2
        have HF : Hid _ := (And.intro hl (And.intro hB (And.intro f0 (And.intro f1 (And.intro f2 (And.intro f3 (And.intro f4 (And.intro f5 (And.intro f6 f7)))))))))
        clear f0 f1 f2 f3 f4 f5 f6 f7 hB hdp hl hd
        refine Opn.mk ?_
        simp only [Act.put, List.setIfInBounds_toArray, List.set_cons_zero, List.set_cons_succ]
        go_simp
        obtain ⟨hl, hB, f0, f1, f2, f3, f4, f5, f6, f7⟩ := HF.out
        exact hK.out _ _ ⟨x2, .agg #[.int .i64 2, .int .i64 0], x7, x8, x9, x10, x11, (by simp only [Act.put, List.setIfInBounds_toArray, List.set_cons_zero, List.set_cons_succ]), .inl ⟨by rw [upd_no (by decide)]; exact hl, hB.trans (Below.mono (Below.refl w'.heap.size w') hB.size), (fun _ => fun _ _ => rfl), (fun h1 => by first | exact (f1 (upd_ne h1 (by decide))).up (Below.refl w'.heap.size w') | exact fun _ _ => rfl), (fun h2 => by first | exact (f2 (upd_ne h2 (by decide))).up (Below.refl w'.heap.size w') | exact fun _ _ => rfl), (fun h3 => by first | exact (f3 (upd_ne h3 (by decide))).up (Below.refl w'.heap.size w') | exact fun _ _ => rfl), (fun h4 => by first | exact (f4 (upd_ne h4 (by decide))).up (Below.refl w'.heap.size w') | exact fun _ _ => rfl), (fun h5 => by first | exact (f5 (upd_ne h5 (by decide))).up (Below.refl w'.heap.size w') | exact fun _ _ => rfl), (fun h6 => by first | exact (f6 (upd_ne h6 (by decide))).up (Below.refl w'.heap.size w') | exact fun _ _ => rfl), (fun h5 h6 => by first | exact (f7 (upd_ne h5 (by decide)) (upd_ne h6 (by decide))).up (Below.refl w'.heap.size w') | exact fun _ _ => rfl)⟩⟩
      · rintro d a w' ⟨x2, x6, x7, x8, x9, x10, x11, rfl, ⟨hl, hB, f0, f1, f2, f3, f4, f5, f6, f7⟩ | ⟨hall, -⟩⟩ hd hdp K hK
        case inr => exact absurd (hall 1 (by decide)) (by rw [hd]; decide)
        have c0 := cell_up hB hs.1
        have c1 := cell_up hB hs.2
        have HF : Hid _ := (And.intro hl (And.intro hB (And.intro f0 (And.intro f1 (And.intro f2 (And.intro f3 (And.intro f4 (And.intro f5 (And.intro f6 f7)))))))))
        clear f0 f1 f2 f3 f4 f5 f6 f7 hB hdp hl hd
        refine Opn.mk ?_
        simp only [Act.put, List.setIfInBounds_toArray, List.set_cons_zero, List.set_cons_succ]
        go_simp
        obtain ⟨hl, hB, f0, f1, f2, f3, f4, f5, f6, f7⟩ := HF.out
        exact hK.out _ _ ⟨x2, x6, .agg #[.int .i64 2, .int .i64 0], x8, x9, x10, x11, (by simp only [Act.put, List.setIfInBounds_toArray, List.set_cons_zero, List.set_cons_succ]), .inl ⟨by rw [upd_no (by decide)]; exact hl, hB.trans (Below.mono (Below.refl w'.heap.size w') hB.size), (fun h0 => by first | exact (f0 (upd_ne h0 (by decide))).up (Below.refl w'.heap.size w') | exact fun _ _ => rfl), (fun _ => fun _ _ => rfl), (fun h2 => by first | exact (f2 (upd_ne h2 (by decide))).up (Below.refl w'.heap.size w') | exact fun _ _ => rfl), (fun h3 => by first | exact (f3 (upd_ne h3 (by decide))).up (Below.refl w'.heap.size w') | exact fun _ _ => rfl), (fun h4 => by first | exact (f4 (upd_ne h4 (by decide))).up (Below.refl w'.heap.size w') | exact fun _ _ => rfl), (fun h5 => by first | exact (f5 (upd_ne h5 (by decide))).up (Below.refl w'.heap.size w') | exact fun _ _ => rfl), (fun h6 => by first | exact (f6 (upd_ne h6 (by decide))).up (Below.refl w'.heap.size w') | exact fun _ _ => rfl), (fun h5 h6 => by first | exact (f7 (upd_ne h5 (by decide)) (upd_ne h6 (by decide))).up (Below.refl w'.heap.size w') | exact fun _ _ => rfl)⟩⟩
      · rintro d a w' ⟨x2, x6, x7, x8, x9, x10, x11, rfl, ⟨hl, hB, f0, f1, f2, f3, f4, f5, f6, f7⟩ | ⟨hall, -⟩⟩ hd hdp K hK
        case inr => exact absurd (hall 2 (by decide)) (by rw [hd]; decide)
        obtain rfl := (f1 (hdp 1 (by decide +kernel))).now
        have HF : Hid _ := (And.intro hl (And.intro hB (And.intro f0 (And.intro f1 (And.intro f2 (And.intro f3 (And.intro f4 (And.intro f5 (And.intro f6 f7)))))))))
        clear f0 f1 f2 f3 f4 f5 f6 f7 hB hdp hl hd
        refine Opn.mk ?_
        simp only [Act.put, List.setIfInBounds_toArray, List.set_cons_zero, List.set_cons_succ]
        go_simp
        go_wp2_with (first | (go_at_call 22; with_reducible refine (start_any _ 2 0).mono ?_; rintro e3 w3 ⟨rfl, g3⟩))
        obtain ⟨hl, hB, f0, f1, f2, f3, f4, f5, f6, f7⟩ := HF.out
        exact hK.out _ _ ⟨x2, x6, .agg #[.int .i64 2, .int .i64 0], .agg #[.int .u64 0, .int .i64 0, .slice none 0 0], x9, x10, x11, (by simp only [Act.put, List.setIfInBounds_toArray, List.set_cons_zero, List.set_cons_succ]), .inl ⟨by rw [upd_no (by decide)]; exact hl, hB.trans (Below.mono (g3.below) hB.size), (fun h0 => by first | exact (f0 (upd_ne h0 (by decide))).up (g3.below) | exact fun _ _ => rfl), (fun h1 => by first | exact (f1 (upd_ne h1 (by decide))).up (g3.below) | exact fun _ _ => rfl), (fun _ => fun _ _ => rfl), (fun h3 => by first | exact (f3 (upd_ne h3 (by decide))).up (g3.below) | exact fun _ _ => rfl), (fun h4 => by first | exact (f4 (upd_ne h4 (by decide))).up (g3.below) | exact fun _ _ => rfl), (fun h5 => by first | exact (f5 (upd_ne h5 (by decide))).up (g3.below) | exact fun _ _ => rfl), (fun h6 => by first | exact (f6 (upd_ne h6 (by decide))).up (g3.below) | exact fun _ _ => rfl), (fun h5 h6 => by first | exact (f7 (upd_ne h5 (by decide)) (upd_ne h6 (by decide))).up (g3.below) | exact fun _ _ => rfl)⟩⟩
      · rintro d a w' ⟨x2, x6, x7, x8, x9, x10, x11, rfl, ⟨hl, hB, f0, f1, f2, f3, f4, f5, f6, f7⟩ | ⟨hall, -⟩⟩ hd hdp K hK
        case inr => exact absurd (hall 3 (by decide)) (by rw [hd]; decide)
        skip
        have HF : Hid _ := (And.intro hl (And.intro hB (And.intro f0 (And.intro f1 (And.intro f2 (And.intro f3 (And.intro f4 (And.intro f5 (And.intro f6 f7)))))))))
        clear f0 f1 f2 f3 f4 f5 f6 f7 hB hdp hl hd
        refine Opn.mk ?_
        simp only [Act.put, List.setIfInBounds_toArray, List.set_cons_zero, List.set_cons_succ]
        go_simp
        obtain ⟨hl, hB, f0, f1, f2, f3, f4, f5, f6, f7⟩ := HF.out
        exact hK.out _ _ ⟨x2, x6, x7, x8, .slice (some ⟨w'.heap.size, 0, none⟩) 1 1, x10, x11, (by simp only [Act.put, List.setIfInBounds_toArray, List.set_cons_zero, List.set_cons_succ]), .inl ⟨by rw [upd_no (by decide)]; exact hl, hB.trans (Below.mono ((Grows.alloc _ _).below) hB.size), (fun h0 => by first | exact (f0 (upd_ne h0 (by decide))).up ((Grows.alloc _ _).below) | exact fun _ _ => rfl), (fun h1 => by first | exact (f1 (upd_ne h1 (by decide))).up ((Grows.alloc _ _).below) | exact fun _ _ => rfl), (fun h2 => by first | exact (f2 (upd_ne h2 (by decide))).up ((Grows.alloc _ _).below) | exact fun _ _ => rfl), (fun _ => fun X bX => ⟨_, rfl, cell_up bX (al_new _ _ _ rfl rfl)⟩), (fun h4 => by first | exact (f4 (upd_ne h4 (by decide))).up ((Grows.alloc _ _).below) | exact fun _ _ => rfl), (fun h5 => by first | exact (f5 (upd_ne h5 (by decide))).up ((Grows.alloc _ _).below) | exact fun _ _ => rfl), (fun h6 => by first | exact (f6 (upd_ne h6 (by decide))).up ((Grows.alloc _ _).below) | exact fun _ _ => rfl), (fun h5 h6 => by first | exact (f7 (upd_ne h5 (by decide)) (upd_ne h6 (by decide))).up ((Grows.alloc _ _).below) | exact fun _ _ => rfl)⟩⟩
      · rintro d a w' ⟨x2, x6, x7, x8, x9, x10, x11, rfl, ⟨hl, hB, f0, f1, f2, f3, f4, f5, f6, f7⟩ | ⟨hall, -⟩⟩ hd hdp K hK
        case inr => exact absurd (hall 4 (by decide)) (by rw [hd]; decide)
        have h9 := f3 (hdp 3 (by decide +kernel))
        obtain ⟨B, rfl, -⟩ := h9.now
        have HF : Hid _ := (And.intro hl (And.intro hB (And.intro f0 (And.intro f1 (And.intro f2 (And.intro f3 (And.intro f4 (And.intro f5 (And.intro f6 f7)))))))))
        clear f0 f1 f2 f3 f4 f5 f6 f7 hB hdp hl hd
        refine Opn.mk ?_
        simp only [Act.put, List.setIfInBounds_toArray, List.set_cons_zero, List.set_cons_succ]
        go_simp
        obtain ⟨hl, hB, f0, f1, f2, f3, f4, f5, f6, f7⟩ := HF.out
        exact hK.out _ _ ⟨x2, x6, x7, x8, .slice (some ⟨B, 0, none⟩) 1 1, .agg #[.int .i64 0, .slice none 0 0, .slice (some ⟨B, 0, none⟩) 1 1], x11, (by simp only [Act.put, List.setIfInBounds_toArray, List.set_cons_zero, List.set_cons_succ]), .inl ⟨by rw [upd_no (by decide)]; exact hl, hB.trans (Below.mono (Below.refl w'.heap.size w') hB.size), (fun h0 => by first | exact (f0 (upd_ne h0 (by decide))).up (Below.refl w'.heap.size w') | exact fun _ _ => rfl), (fun h1 => by first | exact (f1 (upd_ne h1 (by decide))).up (Below.refl w'.heap.size w') | exact fun _ _ => rfl), (fun h2 => by first | exact (f2 (upd_ne h2 (by decide))).up (Below.refl w'.heap.size w') | exact fun _ _ => rfl), (fun h3 => by first | exact (f3 (upd_ne h3 (by decide))).up (Below.refl w'.heap.size w') | exact fun _ _ => rfl), (fun _ => fun X bX => by obtain ⟨B', e, h⟩ := h9 X bX; cases e; exact ⟨_, rfl, h⟩), (fun h5 => by first | exact (f5 (upd_ne h5 (by decide))).up (Below.refl w'.heap.size w') | exact fun _ _ => rfl), (fun h6 => by first | exact (f6 (upd_ne h6 (by decide))).up (Below.refl w'.heap.size w') | exact fun _ _ => rfl), (fun h5 h6 => by first | exact (f7 (upd_ne h5 (by decide)) (upd_ne h6 (by decide))).up (Below.refl w'.heap.size w') | exact fun _ _ => rfl)⟩⟩
      · rintro d a w' ⟨x2, x6, x7, x8, x9, x10, x11, rfl, ⟨hl, hB, f0, f1, f2, f3, f4, f5, f6, f7⟩ | ⟨hall, -⟩⟩ hd hdp K hK
        case inr => exact absurd (hall 5 (by decide)) (by rw [hd]; decide)
        obtain rfl := (f0 (hdp 0 (by decide +kernel))).now
        obtain rfl := (f2 (hdp 2 (by decide +kernel))).now
        obtain ⟨B, rfl, h3⟩ := (f4 (hdp 4 (by decide +kernel))).now
        have HF : Hid _ := (And.intro hl (And.intro hB (And.intro f0 (And.intro f1 (And.intro f2 (And.intro f3 (And.intro f4 (And.intro f5 (And.intro f6 f7)))))))))
        clear f0 f1 f2 f3 f4 f5 f6 f7 hB hdp hl hd
        refine Opn.mk ?_
        simp only [Act.put, List.setIfInBounds_toArray, List.set_cons_zero, List.set_cons_succ]
        go_simp
        go_wp2_with (first | (go_at_call 23; with_reducible refine (kA _ _ h3).mono ?_; rintro e5 w5 ⟨r, rfl, ok5, new5, hr5, b5⟩))
        obtain ⟨hl, hB, f0, f1, f2, f3, f4, f5, f6, f7⟩ := HF.out
        exact hK.out _ _ ⟨x2, .agg #[.int .i64 2, .int .i64 0], x7, .agg #[.int .u64 0, .int .i64 0, .slice none 0 0], x9, .agg #[.int .i64 0, .slice none 0 0, .slice (some ⟨B, 0, none⟩) 1 1], .agg #[.int .u64 r.n, .int .i64 r.v, r.tv], (by simp only [Act.put, List.setIfInBounds_toArray, List.set_cons_zero, List.set_cons_succ]), .inl ⟨by rw [upd_no (by decide)]; exact hl, hB.trans (Below.mono (b5) hB.size), (fun h0 => by first | exact (f0 (upd_ne h0 (by decide))).up (b5) | exact fun _ _ => rfl), (fun h1 => by first | exact (f1 (upd_ne h1 (by decide))).up (b5) | exact fun _ _ => rfl), (fun h2 => by first | exact (f2 (upd_ne h2 (by decide))).up (b5) | exact fun _ _ => rfl), (fun h3 => by first | exact (f3 (upd_ne h3 (by decide))).up (b5) | exact fun _ _ => rfl), (fun h4 => by first | exact (f4 (upd_ne h4 (by decide))).up (b5) | exact fun _ _ => rfl), (fun _ => fun X bX => ⟨r, rfl, hr5, ok5.up bX⟩), (fun h6 => by first | exact (f6 (upd_ne h6 (by decide))).up (b5) | exact fun _ _ => rfl), (fun _ h6 => fun X bX => by
                obtain ⟨B', e', l', bx'⟩ := (f6 (upd_ne h6 (by decide))).now
                exact ⟨r, B', rfl, e', hr5, fun u v z => (ok5.up bX).put3 new5 bx'.lt u v z⟩)⟩⟩
      · rintro d a w' ⟨x2, x6, x7, x8, x9, x10, x11, rfl, ⟨hl, hB, f0, f1, f2, f3, f4, f5, f6, f7⟩ | ⟨hall, -⟩⟩ hd hdp K hK
        case inr => exact absurd (hall 6 (by decide)) (by rw [hd]; decide)
        skip
        have HF : Hid _ := (And.intro hl (And.intro hB (And.intro f0 (And.intro f1 (And.intro f2 (And.intro f3 (And.intro f4 (And.intro f5 (And.intro f6 f7)))))))))
        clear f0 f1 f2 f3 f4 f5 f6 f7 hB hdp hl hd
        refine Opn.mk ?_
        simp only [Act.put, List.setIfInBounds_toArray, List.set_cons_zero, List.set_cons_succ]
        go_simp
        obtain ⟨hl, hB, f0, f1, f2, f3, f4, f5, f6, f7⟩ := HF.out
        exact hK.out _ _ ⟨.pointer (some ⟨w'.heap.size, 0, none⟩), x6, x7, x8, x9, x10, x11, (by simp only [Act.put, List.setIfInBounds_toArray, List.set_cons_zero, List.set_cons_succ]), .inl ⟨by rw [upd_no (by decide)]; exact hl, hB.trans (Below.mono ((Grows.alloc _ _).below) hB.size), (fun h0 => by first | exact (f0 (upd_ne h0 (by decide))).up ((Grows.alloc _ _).below) | exact fun _ _ => rfl), (fun h1 => by first | exact (f1 (upd_ne h1 (by decide))).up ((Grows.alloc _ _).below) | exact fun _ _ => rfl), (fun h2 => by first | exact (f2 (upd_ne h2 (by decide))).up ((Grows.alloc _ _).below) | exact fun _ _ => rfl), (fun h3 => by first | exact (f3 (upd_ne h3 (by decide))).up ((Grows.alloc _ _).below) | exact fun _ _ => rfl), (fun h4 => by first | exact (f4 (upd_ne h4 (by decide))).up ((Grows.alloc _ _).below) | exact fun _ _ => rfl), (fun h5 => by first | exact (f5 (upd_ne h5 (by decide))).up ((Grows.alloc _ _).below) | exact fun _ _ => rfl), (fun _ => fun X bX => ⟨_, rfl, hB.size, (Box3.new _ _ _ _ _ _ rfl).up bX⟩), (fun h5 _ => fun X bX => by
                obtain ⟨r, e, hr, ok⟩ := (f5 (upd_ne h5 (by decide))).now
                exact ⟨r, _, e, rfl, hr, fun u v z => ok.up (below_put3 (((Grows.alloc _ _).below).trans (bX.mono (by simp))) (Nat.le_refl _) u v z)⟩)⟩⟩
      · rintro d a w' ⟨x2, x6, x7, x8, x9, x10, x11, rfl, ⟨hl, hB, f0, f1, f2, f3, f4, f5, f6, f7⟩ | ⟨hall, -⟩⟩ hd hdp K hK
        case inr => exact absurd (hall 7 (by decide)) (by rw [hd]; decide)
        obtain ⟨B, e2, hle, bx⟩ := (f6 (hdp 6 (by decide +kernel))).now
        obtain ⟨r, B', e11, e2', hr, okp⟩ := (f7 (hdp 5 (by decide +kernel)) (hdp 6 (by decide +kernel))).now
        have hall : ∀ j, j < 8 → upd d 7 j = true := fun j hj => by
          rcases (by omega : j = 0 ∨ j = 1 ∨ j = 2 ∨ j = 3 ∨ j = 4 ∨ j = 5 ∨ j = 6 ∨ j = 7) with rfl | rfl | rfl | rfl | rfl | rfl | rfl | rfl
          all_goals first | rfl | (rw [upd_no (by decide)]; exact hdp _ (by decide +kernel))
        subst e11 e2
        cases e2'
        have HP : Hid _ := bx.put (.int .u64 r.n) (.int .i64 r.v) r.tv
        have HOK : Hid _ := okp
        have HH : Hid _ := And.intro hall (And.intro hr hle)
        have hsl : ∃ a n c, r.tv = .slice a n c := (okp undef undef undef).rt.sl
        obtain ⟨rn, rv, rtv, rts⟩ := r
        obtain ⟨a7, n7, c7, hv7⟩ := hsl
        simp only at hv7
        subst hv7
        obtain ⟨y0, y1, y2, yf⟩ := bx
        clear hall hr hle okp
        have HF : Hid _ := (And.intro hl (And.intro hB (And.intro f0 (And.intro f1 (And.intro f2 (And.intro f3 (And.intro f4 (And.intro f5 (And.intro f6 f7)))))))))
        clear f0 f1 f2 f3 f4 f5 f6 f7 hB hdp hl hd
        refine Opn.mk ?_
        simp only [Act.put, List.setIfInBounds_toArray, List.set_cons_zero, List.set_cons_succ]
        go_simp
        obtain ⟨hl, hB, f0, f1, f2, f3, f4, f5, f6, f7⟩ := HF.out
        obtain ⟨hall, hr, hle⟩ := HH.out
        exact hK.out _ _ ⟨.pointer (some ⟨B, 0, none⟩), x6, x7, x8, x9, x10, .agg #[.int .u64 rn, .int .i64 rv, .slice a7 n7 c7], (by simp only [Act.put, List.setIfInBounds_toArray, List.set_cons_zero, List.set_cons_succ]), .inr ⟨hall, ⟨rn, rv, .slice a7 n7 c7, rts⟩, B, rfl, HP.out, HOK.out _ _ _, hr, hle, below_put3 hB hle _ _ _⟩⟩
    · rintro d a' w' hall ⟨x2, x6, x7, x8, x9, x10, x11, rfl, hI⟩
      rcases hI with ⟨hl, -⟩ | ⟨-, r, B, rfl, bx, ok, hr, hle, bl⟩
      · exact absurd (hall 7 (by decide)) (by rw [hl]; decide)
      have HI : Hid (∃ r : Pt, Box3 w' B (.int .u64 r.n) (.int .i64 r.v) r.tv ∧ r.Ok w' ∧ r.p0 = (2, 6, []) ∧ V.heap.size ≤ B ∧ Below V.heap.size V w') := ⟨r, bx, ok, hr, hle, bl⟩
      clear bx ok hr hle bl
      simp only [Act.put, List.setIfInBounds_toArray, List.set_cons_zero, List.set_cons_succ]
      go_wp2_with fail
      go_meet
      case rel => exact ⟨B, rfl, HI⟩
  case rest =>
    rename World => wA
    obtain ⟨B2, rfl, HR⟩ := hcut
    obtain ⟨r2, bx2, ok2, hr2, hle2, bA⟩ := HR.out
    clear HR kA
    obtain ⟨rn, rv, rtv, rts⟩ := r2
    obtain ⟨a2, n2, c2, hv2⟩ := ok2.rt.sl
    simp only at hv2
    subst hv2
    simp only [Pt.p0, Prod.mk.injEq] at hr2
    obtain ⟨rfl, rfl, rfl⟩ := hr2
    simp only at bx2
    obtain ⟨X1, hX1⟩ : ∃ X1, X1 = wA.alloc (.cells #[.int .i64 (-1)] 2) := ⟨_, rfl⟩
    have g1 : Below wA.heap.size wA X1 := by rw [hX1]; exact (Grows.alloc _ _).below
    have kB : Calls Try.prog 23 #[.agg #[.int .i64 2, .int .i64 0], .agg #[.int .u64 2, .int .i64 6, .slice a2 n2 c2], .agg #[.int .i64 0, .slice none 0 0, .slice (some ⟨wA.heap.size, 0, none⟩) 1 1], .int .u64 1] X1 (Gives (3, 5, []) X1) := by
      have := add_2 X1 ⟨2, 6, .slice a2 n2 c2, []⟩ wA.heap.size (-1) 1 (ok2.up g1) rfl (by rw [hX1]; exact al_new _ _ _ rfl rfl)
      rw [show (Pt.mk 2 6 (.slice a2 n2 c2) []).p0 = (2, 6, []) from rfl, add_2b] at this
      exact this
    rw [hX1] at kB
    unfold Gives at kB
    have c0 := cell_up bA hs.1
    have c1 := cell_up bA hs.2
    have HS : Hid _ := And.intro g1 (And.intro hX1 (And.intro bA (And.intro hle2 (And.intro bx2 hs))))
    obtain ⟨y0, y1, y2, yf⟩ := bx2
    clear g1 hX1 bA hle2 ok2 hs
    go_wp2_with fail
    refine kB.mono ?_
    rintro e w3 ⟨r3, rfl, ok3, new3, hr3, b3⟩
    obtain ⟨g1, hX1, bA, hle2, bx2, hs⟩ := HS.out
    rw [← hX1] at new3 b3
    obtain ⟨rn, rv, rtv, rts⟩ := r3
    obtain ⟨a3, n3, c3, hv3⟩ := ok3.rt.sl
    simp only at hv3
    subst hv3
    simp only [Pt.p0, Prod.mk.injEq] at hr3
    obtain ⟨rfl, rfl, rfl⟩ := hr3
    have b13 : Below wA.heap.size wA w3 := g1.trans (b3.mono g1.size)
    have bx3 := bx2.up b13
    have ok3' := ok3.put3 (new3.mono (Nat.le_refl _)) (Nat.lt_of_lt_of_le bx2.lt g1.size) (.int .u64 3) (.int .i64 5) (.slice a3 n3 c3)
    have hB2 : V.heap.size ≤ B2 := hle2
    have b3V : Below V.heap.size V (put3 w3 B2 (.int .u64 3) (.int .i64 5) (.slice a3 n3 c3)) := below_put3 (bA.trans (b13.mono bA.size)) hB2 _ _ _
    have bx3' := bx3.put (.int .u64 3) (.int .i64 5) (.slice a3 n3 c3)
    obtain ⟨V4, hV4⟩ : ∃ V4, V4 = put3 w3 B2 (.int .u64 3) (.int .i64 5) (.slice a3 n3 c3) := ⟨_, rfl⟩
    rw [← hV4] at b3V ok3' bx3'
    obtain ⟨V5, hV5⟩ : ∃ V5, V5 = V4.alloc (.cells #[.int .i64 5, .int .i64 0] 26) := ⟨_, rfl⟩
    have g5 : Below V4.heap.size V4 V5 := by rw [hV5]; exact (Grows.alloc _ _).below
    have hz4 : w3.heap.size = V4.heap.size := by rw [hV4]; simp
    have hs5 : V5.cell? ⟨w3.heap.size, 0, none⟩ = some (.int .i64 5) ∧ V5.cell? ⟨w3.heap.size, 1, none⟩ = some (.int .i64 0) := by rw [hV5]; exact ⟨al_new _ _ _ hz4 rfl, al_new _ _ _ hz4 rfl⟩
    have HS5 : Hid _ := And.intro (b3V.trans (g5.mono b3V.size)) (And.intro (bx3'.up g5) (And.intro (ok3'.up g5) hs))
    have HV5 : Hid _ := And.intro hV4 hV5
    clear hz4 hV5 hV4 g5 b3V ok3' bx3' g1 hX1 bA hle2 bx2 hs HS b13 ok3 new3 b3 hB2 kB c0 c1 y0 y1 y2 yf
    obtain ⟨y0, y1, y2, yf⟩ := bx3
    go_wp2_with fail
    rw [show ((w3.setCell ⟨B2, 0, none⟩ (.int .u64 3)).setCell ⟨B2, 1, none⟩ (.int .i64 5)).setCell ⟨B2, 2, none⟩ (.slice a3 n3 c3) = V4 from HV5.out.1.symm, ← HV5.out.2]
    have k5 : ∀ (X : World) (B : Nat), X.cell? ⟨B, 0, none⟩ = some (.string ⟨#[98]⟩) → Calls Try.prog 23 #[.agg #[.int .i64 5, .int .i64 0], .agg #[.int .u64 0, .int .i64 0, .slice none 0 0], .agg #[.int .i64 0, .slice (some ⟨B, 0, none⟩) 1 1, .slice none 0 0], .int .u64 1] X (Gives (1, 0, [[98]]) X) := fun X B hX => by
      have := add_5 X B [98] 1 hX
      rw [add_5a] at this
      exact this
    unfold Gives at k5
    go_cut [4] (fun t wB => ∃ B, t = .pointer (some ⟨B, 0, none⟩) ∧ Hid (∃ r : Pt, Box3 wB B (.int .u64 r.n) (.int .i64 r.v) r.tv ∧ r.Ok wB ∧ r.p0 = (1, 0, [[98]]) ∧ V5.heap.size ≤ B ∧ Below V5.heap.size V5 wB))
    case first =>
      refine wp_region_invA (fun a0 d a' w' => ∃ x4 x18 x19 x20 x21 x22 x23 : Value, a' = (((((((a0.put (some 4) x4).put (some 18) x18).put (some 19) x19).put (some 20) x20).put (some 21) x21).put (some 22) x22).put (some 23) x23) ∧ ((d 7 = false ∧ Below V5.heap.size V5 w' ∧ (d 0 = true → Evr w' (fun _ => x18 = .agg #[.int .i64 5, .int .i64 0])) ∧ (d 1 = true → Evr w' (fun _ => x19 = .agg #[.int .i64 5, .int .i64 0])) ∧ (d 2 = true → Evr w' (fun _ => x20 = .agg #[.int .u64 0, .int .i64 0, .slice none 0 0])) ∧ (d 3 = true → Evr w' (fun X => ∃ B, x21 = .slice (some ⟨B, 0, none⟩) 1 1 ∧ X.cell? ⟨B, 0, none⟩ = some (.string ⟨#[98]⟩))) ∧ (d 4 = true → Evr w' (fun X => ∃ B, x22 = .agg #[.int .i64 0, .slice (some ⟨B, 0, none⟩) 1 1, .slice none 0 0] ∧ X.cell? ⟨B, 0, none⟩ = some (.string ⟨#[98]⟩))) ∧ (d 5 = true → Evr w' (fun X => ∃ r : Pt, x23 = .agg #[.int .u64 r.n, .int .i64 r.v, r.tv] ∧ r.p0 = (1, 0, [[98]]) ∧ r.Ok X)) ∧ (d 6 = true → Evr w' (fun X => ∃ B, x4 = .pointer (some ⟨B, 0, none⟩) ∧ V5.heap.size ≤ B ∧ Box3 X B (.int .u64 0) (.int .i64 0) (.slice none 0 0))) ∧ (d 5 = true → d 6 = true → Evr w' (fun X => ∃ (r : Pt) (B : Nat), x23 = .agg #[.int .u64 r.n, .int .i64 r.v, r.tv] ∧ x4 = .pointer (some ⟨B, 0, none⟩) ∧ r.p0 = (1, 0, [[98]]) ∧ ∀ u v z, r.Ok (put3 X B u v z)))) ∨ ((∀ j, j < 8 → d j = true) ∧ ∃ (r : Pt) (B : Nat), x4 = .pointer (some ⟨B, 0, none⟩) ∧ Box3 w' B (.int .u64 r.n) (.int .i64 r.v) r.tv ∧ r.Ok w' ∧ r.p0 = (1, 0, [[98]]) ∧ V5.heap.size ≤ B ∧ Below V5.heap.size V5 w'))) mixed (by kernel_rfl) ?_ ?_ ?_
      · exact ⟨undef, u18, u19, u20, u21, u22, u23, (by simp only [Act.put, List.setIfInBounds_toArray, List.set_cons_zero, List.set_cons_succ]), .inl ⟨rfl, below_dN (Below.refl _ _) 1, (fun h => by cases h), (fun h => by cases h), (fun h => by cases h), (fun h => by cases h), (fun h => by cases h), (fun h => by cases h), (fun h => by cases h), (fun h => by cases h)⟩⟩
      · refine ⟨?_, ?_, ?_, ?_, ?_, ?_, ?_, ?_, trivial⟩
        · rintro d a w' ⟨x4, x18, x19, x20, x21, x22, x23, rfl, ⟨hl, hB, f0, f1, f2, f3, f4, f5, f6, f7⟩ | ⟨hall, -⟩⟩ hd hdp K hK
          case inr => exact absurd (hall 0 (by decide)) (by rw [hd]; decide)
          have c0 := cell_up hB hs5.1
          have c1 := cell_up hB hs5.2
          have HF : Hid _ := (And.intro hl (And.intro hB (And.intro f0 (And.intro f1 (And.intro f2 (And.intro f3 (And.intro f4 (And.intro f5 (And.intro f6 f7)))))))))
          clear f0 f1 f2 f3 f4 f5 f6 f7 hB hdp hl hd
          refine Opn.mk ?_
          simp only [Act.put, List.setIfInBounds_toArray, List.set_cons_zero, List.set_cons_succ]
          go_simp
          obtain ⟨hl, hB, f0, f1, f2, f3, f4, f5, f6, f7⟩ := HF.out
          exact hK.out _ _ ⟨x4, .agg #[.int .i64 5, .int .i64 0], x19, x20, x21, x22, x23, (by simp only [Act.put, List.setIfInBounds_toArray, List.set_cons_zero, List.set_cons_succ]), .inl ⟨by rw [upd_no (by decide)]; exact hl, hB.trans (Below.mono (Below.refl w'.heap.size w') hB.size), (fun _ => fun _ _ => rfl), (fun h1 => by first | exact (f1 (upd_ne h1 (by decide))).up (Below.refl w'.heap.size w') | exact fun _ _ => rfl), (fun h2 => by first | exact (f2 (upd_ne h2 (by decide))).up (Below.refl w'.heap.size w') | exact fun _ _ => rfl), (fun h3 => by first | exact (f3 (upd_ne h3 (by decide))).up (Below.refl w'.heap.size w') | exact fun _ _ => rfl), (fun h4 => by first | exact (f4 (upd_ne h4 (by decide))).up (Below.refl w'.heap.size w') | exact fun _ _ => rfl), (fun h5 => by first | exact (f5 (upd_ne h5 (by decide))).up (Below.refl w'.heap.size w') | exact fun _ _ => rfl), (fun h6 => by first | exact (f6 (upd_ne h6 (by decide))).up (Below.refl w'.heap.size w') | exact fun _ _ => rfl), (fun h5 h6 => by first | exact (f7 (upd_ne h5 (by decide)) (upd_ne h6 (by decide))).up (Below.refl w'.heap.size w') | exact fun _ _ => rfl)⟩⟩
        · rintro d a w' ⟨x4, x18, x19, x20, x21, x22, x23, rfl, ⟨hl, hB, f0, f1, f2, f3, f4, f5, f6, f7⟩ | ⟨hall, -⟩⟩ hd hdp K hK
          case inr => exact absurd (hall 1 (by decide)) (by rw [hd]; decide)
          have c0 := cell_up hB hs5.1
          have c1 := cell_up hB hs5.2
          have HF : Hid _ := (And.intro hl (And.intro hB (And.intro f0 (And.intro f1 (And.intro f2 (And.intro f3 (And.intro f4 (And.intro f5 (And.intro f6 f7)))))))))
          clear f0 f1 f2 f3 f4 f5 f6 f7 hB hdp hl hd
          refine Opn.mk ?_
          simp only [Act.put, List.setIfInBounds_toArray, List.set_cons_zero, List.set_cons_succ]
          go_simp
          obtain ⟨hl, hB, f0, f1, f2, f3, f4, f5, f6, f7⟩ := HF.out
          exact hK.out _ _ ⟨x4, x18, .agg #[.int .i64 5, .int .i64 0], x20, x21, x22, x23, (by simp only [Act.put, List.setIfInBounds_toArray, List.set_cons_zero, List.set_cons_succ]), .inl ⟨by rw [upd_no (by decide)]; exact hl, hB.trans (Below.mono (Below.refl w'.heap.size w') hB.size), (fun h0 => by first | exact (f0 (upd_ne h0 (by decide))).up (Below.refl w'.heap.size w') | exact fun _ _ => rfl), (fun _ => fun _ _ => rfl), (fun h2 => by first | exact (f2 (upd_ne h2 (by decide))).up (Below.refl w'.heap.size w') | exact fun _ _ => rfl), (fun h3 => by first | exact (f3 (upd_ne h3 (by decide))).up (Below.refl w'.heap.size w') | exact fun _ _ => rfl), (fun h4 => by first | exact (f4 (upd_ne h4 (by decide))).up (Below.refl w'.heap.size w') | exact fun _ _ => rfl), (fun h5 => by first | exact (f5 (upd_ne h5 (by decide))).up (Below.refl w'.heap.size w') | exact fun _ _ => rfl), (fun h6 => by first | exact (f6 (upd_ne h6 (by decide))).up (Below.refl w'.heap.size w') | exact fun _ _ => rfl), (fun h5 h6 => by first | exact (f7 (upd_ne h5 (by decide)) (upd_ne h6 (by decide))).up (Below.refl w'.heap.size w') | exact fun _ _ => rfl)⟩⟩
        · rintro d a w' ⟨x4, x18, x19, x20, x21, x22, x23, rfl, ⟨hl, hB, f0, f1, f2, f3, f4, f5, f6, f7⟩ | ⟨hall, -⟩⟩ hd hdp K hK
          case inr => exact absurd (hall 2 (by decide)) (by rw [hd]; decide)
          obtain rfl := (f1 (hdp 1 (by decide +kernel))).now
          have HF : Hid _ := (And.intro hl (And.intro hB (And.intro f0 (And.intro f1 (And.intro f2 (And.intro f3 (And.intro f4 (And.intro f5 (And.intro f6 f7)))))))))
          clear f0 f1 f2 f3 f4 f5 f6 f7 hB hdp hl hd
          refine Opn.mk ?_
          simp only [Act.put, List.setIfInBounds_toArray, List.set_cons_zero, List.set_cons_succ]
          go_simp
          go_wp2_with (first | (go_at_call 22; with_reducible refine (start_any _ 5 0).mono ?_; rintro e3 w3 ⟨rfl, g3⟩))
          obtain ⟨hl, hB, f0, f1, f2, f3, f4, f5, f6, f7⟩ := HF.out
          exact hK.out _ _ ⟨x4, x18, .agg #[.int .i64 5, .int .i64 0], .agg #[.int .u64 0, .int .i64 0, .slice none 0 0], x21, x22, x23, (by simp only [Act.put, List.setIfInBounds_toArray, List.set_cons_zero, List.set_cons_succ]), .inl ⟨by rw [upd_no (by decide)]; exact hl, hB.trans (Below.mono (g3.below) hB.size), (fun h0 => by first | exact (f0 (upd_ne h0 (by decide))).up (g3.below) | exact fun _ _ => rfl), (fun h1 => by first | exact (f1 (upd_ne h1 (by decide))).up (g3.below) | exact fun _ _ => rfl), (fun _ => fun _ _ => rfl), (fun h3 => by first | exact (f3 (upd_ne h3 (by decide))).up (g3.below) | exact fun _ _ => rfl), (fun h4 => by first | exact (f4 (upd_ne h4 (by decide))).up (g3.below) | exact fun _ _ => rfl), (fun h5 => by first | exact (f5 (upd_ne h5 (by decide))).up (g3.below) | exact fun _ _ => rfl), (fun h6 => by first | exact (f6 (upd_ne h6 (by decide))).up (g3.below) | exact fun _ _ => rfl), (fun h5 h6 => by first | exact (f7 (upd_ne h5 (by decide)) (upd_ne h6 (by decide))).up (g3.below) | exact fun _ _ => rfl)⟩⟩
        · rintro d a w' ⟨x4, x18, x19, x20, x21, x22, x23, rfl, ⟨hl, hB, f0, f1, f2, f3, f4, f5, f6, f7⟩ | ⟨hall, -⟩⟩ hd hdp K hK
          case inr => exact absurd (hall 3 (by decide)) (by rw [hd]; decide)
          skip
          have HF : Hid _ := (And.intro hl (And.intro hB (And.intro f0 (And.intro f1 (And.intro f2 (And.intro f3 (And.intro f4 (And.intro f5 (And.intro f6 f7)))))))))
          clear f0 f1 f2 f3 f4 f5 f6 f7 hB hdp hl hd
          refine Opn.mk ?_
          simp only [Act.put, List.setIfInBounds_toArray, List.set_cons_zero, List.set_cons_succ]
          go_simp
          obtain ⟨hl, hB, f0, f1, f2, f3, f4, f5, f6, f7⟩ := HF.out
          exact hK.out _ _ ⟨x4, x18, x19, x20, .slice (some ⟨w'.heap.size, 0, none⟩) 1 1, x22, x23, (by simp only [Act.put, List.setIfInBounds_toArray, List.set_cons_zero, List.set_cons_succ]), .inl ⟨by rw [upd_no (by decide)]; exact hl, hB.trans (Below.mono ((Grows.alloc _ _).below) hB.size), (fun h0 => by first | exact (f0 (upd_ne h0 (by decide))).up ((Grows.alloc _ _).below) | exact fun _ _ => rfl), (fun h1 => by first | exact (f1 (upd_ne h1 (by decide))).up ((Grows.alloc _ _).below) | exact fun _ _ => rfl), (fun h2 => by first | exact (f2 (upd_ne h2 (by decide))).up ((Grows.alloc _ _).below) | exact fun _ _ => rfl), (fun _ => fun X bX => ⟨_, rfl, cell_up bX (al_new _ _ _ rfl rfl)⟩), (fun h4 => by first | exact (f4 (upd_ne h4 (by decide))).up ((Grows.alloc _ _).below) | exact fun _ _ => rfl), (fun h5 => by first | exact (f5 (upd_ne h5 (by decide))).up ((Grows.alloc _ _).below) | exact fun _ _ => rfl), (fun h6 => by first | exact (f6 (upd_ne h6 (by decide))).up ((Grows.alloc _ _).below) | exact fun _ _ => rfl), (fun h5 h6 => by first | exact (f7 (upd_ne h5 (by decide)) (upd_ne h6 (by decide))).up ((Grows.alloc _ _).below) | exact fun _ _ => rfl)⟩⟩
        · rintro d a w' ⟨x4, x18, x19, x20, x21, x22, x23, rfl, ⟨hl, hB, f0, f1, f2, f3, f4, f5, f6, f7⟩ | ⟨hall, -⟩⟩ hd hdp K hK
          case inr => exact absurd (hall 4 (by decide)) (by rw [hd]; decide)
          have h9 := f3 (hdp 3 (by decide +kernel))
          obtain ⟨B, rfl, -⟩ := h9.now
          have HF : Hid _ := (And.intro hl (And.intro hB (And.intro f0 (And.intro f1 (And.intro f2 (And.intro f3 (And.intro f4 (And.intro f5 (And.intro f6 f7)))))))))
          clear f0 f1 f2 f3 f4 f5 f6 f7 hB hdp hl hd
          refine Opn.mk ?_
          simp only [Act.put, List.setIfInBounds_toArray, List.set_cons_zero, List.set_cons_succ]
          go_simp
          obtain ⟨hl, hB, f0, f1, f2, f3, f4, f5, f6, f7⟩ := HF.out
          exact hK.out _ _ ⟨x4, x18, x19, x20, .slice (some ⟨B, 0, none⟩) 1 1, .agg #[.int .i64 0, .slice (some ⟨B, 0, none⟩) 1 1, .slice none 0 0], x23, (by simp only [Act.put, List.setIfInBounds_toArray, List.set_cons_zero, List.set_cons_succ]), .inl ⟨by rw [upd_no (by decide)]; exact hl, hB.trans (Below.mono (Below.refl w'.heap.size w') hB.size), (fun h0 => by first | exact (f0 (upd_ne h0 (by decide))).up (Below.refl w'.heap.size w') | exact fun _ _ => rfl), (fun h1 => by first | exact (f1 (upd_ne h1 (by decide))).up (Below.refl w'.heap.size w') | exact fun _ _ => rfl), (fun h2 => by first | exact (f2 (upd_ne h2 (by decide))).up (Below.refl w'.heap.size w') | exact fun _ _ => rfl), (fun h3 => by first | exact (f3 (upd_ne h3 (by decide))).up (Below.refl w'.heap.size w') | exact fun _ _ => rfl), (fun _ => fun X bX => by obtain ⟨B', e, h⟩ := h9 X bX; cases e; exact ⟨_, rfl, h⟩), (fun h5 => by first | exact (f5 (upd_ne h5 (by decide))).up (Below.refl w'.heap.size w') | exact fun _ _ => rfl), (fun h6 => by first | exact (f6 (upd_ne h6 (by decide))).up (Below.refl w'.heap.size w') | exact fun _ _ => rfl), (fun h5 h6 => by first | exact (f7 (upd_ne h5 (by decide)) (upd_ne h6 (by decide))).up (Below.refl w'.heap.size w') | exact fun _ _ => rfl)⟩⟩
        · rintro d a w' ⟨x4, x18, x19, x20, x21, x22, x23, rfl, ⟨hl, hB, f0, f1, f2, f3, f4, f5, f6, f7⟩ | ⟨hall, -⟩⟩ hd hdp K hK
          case inr => exact absurd (hall 5 (by decide)) (by rw [hd]; decide)
          obtain rfl := (f0 (hdp 0 (by decide +kernel))).now
          obtain rfl := (f2 (hdp 2 (by decide +kernel))).now
          obtain ⟨B, rfl, h3⟩ := (f4 (hdp 4 (by decide +kernel))).now
          have HF : Hid _ := (And.intro hl (And.intro hB (And.intro f0 (And.intro f1 (And.intro f2 (And.intro f3 (And.intro f4 (And.intro f5 (And.intro f6 f7)))))))))
          clear f0 f1 f2 f3 f4 f5 f6 f7 hB hdp hl hd
          refine Opn.mk ?_
          simp only [Act.put, List.setIfInBounds_toArray, List.set_cons_zero, List.set_cons_succ]
          go_simp
          go_wp2_with (first | (go_at_call 23; with_reducible refine (k5 _ _ h3).mono ?_; rintro e5 w5 ⟨r, rfl, ok5, new5, hr5, b5⟩))
          obtain ⟨hl, hB, f0, f1, f2, f3, f4, f5, f6, f7⟩ := HF.out
          exact hK.out _ _ ⟨x4, .agg #[.int .i64 5, .int .i64 0], x19, .agg #[.int .u64 0, .int .i64 0, .slice none 0 0], x21, .agg #[.int .i64 0, .slice (some ⟨B, 0, none⟩) 1 1, .slice none 0 0], .agg #[.int .u64 r.n, .int .i64 r.v, r.tv], (by simp only [Act.put, List.setIfInBounds_toArray, List.set_cons_zero, List.set_cons_succ]), .inl ⟨by rw [upd_no (by decide)]; exact hl, hB.trans (Below.mono (b5) hB.size), (fun h0 => by first | exact (f0 (upd_ne h0 (by decide))).up (b5) | exact fun _ _ => rfl), (fun h1 => by first | exact (f1 (upd_ne h1 (by decide))).up (b5) | exact fun _ _ => rfl), (fun h2 => by first | exact (f2 (upd_ne h2 (by decide))).up (b5) | exact fun _ _ => rfl), (fun h3 => by first | exact (f3 (upd_ne h3 (by decide))).up (b5) | exact fun _ _ => rfl), (fun h4 => by first | exact (f4 (upd_ne h4 (by decide))).up (b5) | exact fun _ _ => rfl), (fun _ => fun X bX => ⟨r, rfl, hr5, ok5.up bX⟩), (fun h6 => by first | exact (f6 (upd_ne h6 (by decide))).up (b5) | exact fun _ _ => rfl), (fun _ h6 => fun X bX => by
                  obtain ⟨B', e', l', bx'⟩ := (f6 (upd_ne h6 (by decide))).now
                  exact ⟨r, B', rfl, e', hr5, fun u v z => (ok5.up bX).put3 new5 bx'.lt u v z⟩)⟩⟩
        · rintro d a w' ⟨x4, x18, x19, x20, x21, x22, x23, rfl, ⟨hl, hB, f0, f1, f2, f3, f4, f5, f6, f7⟩ | ⟨hall, -⟩⟩ hd hdp K hK
          case inr => exact absurd (hall 6 (by decide)) (by rw [hd]; decide)
          skip
          have HF : Hid _ := (And.intro hl (And.intro hB (And.intro f0 (And.intro f1 (And.intro f2 (And.intro f3 (And.intro f4 (And.intro f5 (And.intro f6 f7)))))))))
          clear f0 f1 f2 f3 f4 f5 f6 f7 hB hdp hl hd
          refine Opn.mk ?_
          simp only [Act.put, List.setIfInBounds_toArray, List.set_cons_zero, List.set_cons_succ]
          go_simp
          obtain ⟨hl, hB, f0, f1, f2, f3, f4, f5, f6, f7⟩ := HF.out
          exact hK.out _ _ ⟨.pointer (some ⟨w'.heap.size, 0, none⟩), x18, x19, x20, x21, x22, x23, (by simp only [Act.put, List.setIfInBounds_toArray, List.set_cons_zero, List.set_cons_succ]), .inl ⟨by rw [upd_no (by decide)]; exact hl, hB.trans (Below.mono ((Grows.alloc _ _).below) hB.size), (fun h0 => by first | exact (f0 (upd_ne h0 (by decide))).up ((Grows.alloc _ _).below) | exact fun _ _ => rfl), (fun h1 => by first | exact (f1 (upd_ne h1 (by decide))).up ((Grows.alloc _ _).below) | exact fun _ _ => rfl), (fun h2 => by first | exact (f2 (upd_ne h2 (by decide))).up ((Grows.alloc _ _).below) | exact fun _ _ => rfl), (fun h3 => by first | exact (f3 (upd_ne h3 (by decide))).up ((Grows.alloc _ _).below) | exact fun _ _ => rfl), (fun h4 => by first | exact (f4 (upd_ne h4 (by decide))).up ((Grows.alloc _ _).below) | exact fun _ _ => rfl), (fun h5 => by first | exact (f5 (upd_ne h5 (by decide))).up ((Grows.alloc _ _).below) | exact fun _ _ => rfl), (fun _ => fun X bX => ⟨_, rfl, hB.size, (Box3.new _ _ _ _ _ _ rfl).up bX⟩), (fun h5 _ => fun X bX => by
                  obtain ⟨r, e, hr, ok⟩ := (f5 (upd_ne h5 (by decide))).now
                  exact ⟨r, _, e, rfl, hr, fun u v z => ok.up (below_put3 (((Grows.alloc _ _).below).trans (bX.mono (by simp))) (Nat.le_refl _) u v z)⟩)⟩⟩
        · rintro d a w' ⟨x4, x18, x19, x20, x21, x22, x23, rfl, ⟨hl, hB, f0, f1, f2, f3, f4, f5, f6, f7⟩ | ⟨hall, -⟩⟩ hd hdp K hK
          case inr => exact absurd (hall 7 (by decide)) (by rw [hd]; decide)
          obtain ⟨B, e2, hle, bx⟩ := (f6 (hdp 6 (by decide +kernel))).now
          obtain ⟨r, B', e11, e2', hr, okp⟩ := (f7 (hdp 5 (by decide +kernel)) (hdp 6 (by decide +kernel))).now
          have hall : ∀ j, j < 8 → upd d 7 j = true := fun j hj => by
            rcases (by omega : j = 0 ∨ j = 1 ∨ j = 2 ∨ j = 3 ∨ j = 4 ∨ j = 5 ∨ j = 6 ∨ j = 7) with rfl | rfl | rfl | rfl | rfl | rfl | rfl | rfl
            all_goals first | rfl | (rw [upd_no (by decide)]; exact hdp _ (by decide +kernel))
          subst e11 e2
          cases e2'
          have HP : Hid _ := bx.put (.int .u64 r.n) (.int .i64 r.v) r.tv
          have HOK : Hid _ := okp
          have HH : Hid _ := And.intro hall (And.intro hr hle)
          have hsl : ∃ a n c, r.tv = .slice a n c := (okp undef undef undef).rt.sl
          obtain ⟨rn, rv, rtv, rts⟩ := r
          obtain ⟨a7, n7, c7, hv7⟩ := hsl
          simp only at hv7
          subst hv7
          obtain ⟨y0, y1, y2, yf⟩ := bx
          clear hall hr hle okp
          have HF : Hid _ := (And.intro hl (And.intro hB (And.intro f0 (And.intro f1 (And.intro f2 (And.intro f3 (And.intro f4 (And.intro f5 (And.intro f6 f7)))))))))
          clear f0 f1 f2 f3 f4 f5 f6 f7 hB hdp hl hd
          refine Opn.mk ?_
          simp only [Act.put, List.setIfInBounds_toArray, List.set_cons_zero, List.set_cons_succ]
          go_simp
          obtain ⟨hl, hB, f0, f1, f2, f3, f4, f5, f6, f7⟩ := HF.out
          obtain ⟨hall, hr, hle⟩ := HH.out
          exact hK.out _ _ ⟨.pointer (some ⟨B, 0, none⟩), x18, x19, x20, x21, x22, .agg #[.int .u64 rn, .int .i64 rv, .slice a7 n7 c7], (by simp only [Act.put, List.setIfInBounds_toArray, List.set_cons_zero, List.set_cons_succ]), .inr ⟨hall, ⟨rn, rv, .slice a7 n7 c7, rts⟩, B, rfl, HP.out, HOK.out _ _ _, hr, hle, below_put3 hB hle _ _ _⟩⟩
      · rintro d a' w' hall ⟨x4, x18, x19, x20, x21, x22, x23, rfl, hI⟩
        rcases hI with ⟨hl, -⟩ | ⟨-, r, B, rfl, bx, ok, hr, hle, bl⟩
        · exact absurd (hall 7 (by decide)) (by rw [hl]; decide)
        have HI : Hid (∃ r : Pt, Box3 w' B (.int .u64 r.n) (.int .i64 r.v) r.tv ∧ r.Ok w' ∧ r.p0 = (1, 0, [[98]]) ∧ V5.heap.size ≤ B ∧ Below V5.heap.size V5 w') := ⟨r, bx, ok, hr, hle, bl⟩
        clear bx ok hr hle bl
        simp only [Act.put, List.setIfInBounds_toArray, List.set_cons_zero, List.set_cons_succ]
        go_wp2_with fail
        go_meet
        case rel => exact ⟨B, rfl, HI⟩
    case rest =>
      rename World => wB
      obtain ⟨B4, rfl, HR⟩ := hcut
      obtain ⟨q, bx4, ok4, hr4, hle4, bB⟩ := HR.out
      clear HR k5
      obtain ⟨rn, rv, rtv, rts⟩ := q
      obtain ⟨a4, n4, c4, hv4⟩ := ok4.rt.sl
      simp only at hv4
      subst hv4
      simp only [Pt.p0, Prod.mk.injEq] at hr4
      obtain ⟨rfl, rfl, rfl⟩ := hr4
      simp only at bx4
      have hs6 : wB.cell? ⟨w3.heap.size, 0, none⟩ = some (.int .i64 5) ∧ wB.cell? ⟨w3.heap.size, 1, none⟩ = some (.int .i64 0) := ⟨cell_up bB hs5.1, cell_up bB hs5.2⟩
      have k6 : ∀ (X : World) (B : Nat), X.cell? ⟨B, 0, none⟩ = some (.string ⟨#[97]⟩) → Calls Try.prog 23 #[.agg #[.int .i64 5, .int .i64 0], .agg #[.int .u64 0, .int .i64 0, .slice none 0 0], .agg #[.int .i64 0, .slice (some ⟨B, 0, none⟩) 1 1, .slice none 0 0], .int .u64 1] X (Gives (1, 0, [[97]]) X) := fun X B hX => by
        have := add_5 X B [97] 1 hX
        rw [add_5a] at this
        exact this
      have k7 : ∀ (X : World) (r : Pt), Below wB.heap.size wB X → r.Ok X → r.p0 = (1, 0, [[97]]) → Calls Try.prog 21 #[.agg #[.int .i64 5, .int .i64 0], .agg #[.int .u64 1, .int .i64 0, .slice a4 n4 c4], .agg #[.int .u64 r.n, .int .i64 r.v, r.tv]] X (Gives (2, 0, [[97], [98]]) X) := fun X r bX okr hr => by
        have hts : r.ts = [[97]] := by have := congrArg (fun x : P0 => x.2.2) hr; exact this
        have := merge_any X 5 0 ⟨1, 0, .slice a4 n4 c4, [[98]]⟩ r (ok4.up bX) okr (by simp) (by rw [hts]; simp) (fun _ _ _ => ⟨by simp, by rw [hts]; simp, by rw [hts]; simp⟩)
        rw [hr, show (Pt.mk 1 0 (.slice a4 n4 c4) [[98]]).p0 = (1, 0, [[98]]) from rfl, mrg_5] at this
        exact this
      unfold Gives at k6 k7
      have HS6 : Hid _ := And.intro HS5.out (And.intro bB (And.intro hle4 hs5))
      clear hs5 HS5 HV5 y0 y1 y2 yf ok4
      go_wp2_with fail
      refine wp_region_invA (fun a0 d a' w' => ∃ x24 x25 x26 x27 x28 x29 x30 x31 x32 : Value, a' = (((((((((a0.put (some 24) x24).put (some 25) x25).put (some 26) x26).put (some 27) x27).put (some 28) x28).put (some 29) x29).put (some 30) x30).put (some 31) x31).put (some 32) x32) ∧ ((d 9 = false ∧ Below wB.heap.size wB w' ∧ (d 0 = true → Evr w' (fun _ => x24 = .agg #[.int .i64 5, .int .i64 0])) ∧ (d 1 = true → Evr w' (fun _ => x25 = .agg #[.int .u64 1, .int .i64 0, .slice a4 n4 c4])) ∧ (d 2 = true → Evr w' (fun _ => x26 = .agg #[.int .i64 5, .int .i64 0])) ∧ (d 3 = true → Evr w' (fun _ => x27 = .agg #[.int .i64 5, .int .i64 0])) ∧ (d 4 = true → Evr w' (fun _ => x28 = .agg #[.int .u64 0, .int .i64 0, .slice none 0 0])) ∧ (d 5 = true → Evr w' (fun X => ∃ B, x29 = .slice (some ⟨B, 0, none⟩) 1 1 ∧ X.cell? ⟨B, 0, none⟩ = some (.string ⟨#[97]⟩))) ∧ (d 6 = true → Evr w' (fun X => ∃ B, x30 = .agg #[.int .i64 0, .slice (some ⟨B, 0, none⟩) 1 1, .slice none 0 0] ∧ X.cell? ⟨B, 0, none⟩ = some (.string ⟨#[97]⟩))) ∧ (d 7 = true → Evr w' (fun X => ∃ r : Pt, x31 = .agg #[.int .u64 r.n, .int .i64 r.v, r.tv] ∧ r.p0 = (1, 0, [[97]]) ∧ r.Ok X)) ∧ (d 8 = true → Evr w' (fun X => ∃ r : Pt, x32 = .agg #[.int .u64 r.n, .int .i64 r.v, r.tv] ∧ r.p0 = (2, 0, [[97], [98]]) ∧ ∀ u v z, r.Ok (put3 X B4 u v z)))) ∨ ((∀ j, j < 10 → d j = true) ∧ ∃ r : Pt, Box3 w' B4 (.int .u64 r.n) (.int .i64 r.v) r.tv ∧ r.Ok w' ∧ r.p0 = (2, 0, [[97], [98]]) ∧ ∃ X, Below wB.heap.size wB X ∧ w' = put3 X B4 (.int .u64 r.n) (.int .i64 r.v) r.tv))) mixed (by kernel_rfl) ?_ ?_ ?_
      · exact ⟨u24, u25, u26, u27, u28, u29, u30, u31, u32, (by simp only [Act.put, List.setIfInBounds_toArray, List.set_cons_zero, List.set_cons_succ]), .inl ⟨rfl, below_dN (Below.refl _ _) 1, (fun h => by cases h), (fun h => by cases h), (fun h => by cases h), (fun h => by cases h), (fun h => by cases h), (fun h => by cases h), (fun h => by cases h), (fun h => by cases h), (fun h => by cases h)⟩⟩
      · refine ⟨?_, ?_, ?_, ?_, ?_, ?_, ?_, ?_, ?_, ?_, trivial⟩
        · rintro d a w' ⟨x24, x25, x26, x27, x28, x29, x30, x31, x32, rfl, ⟨hl, hB, f0, f1, f2, f3, f4, f5, f6, f7, f8⟩ | ⟨hall, -⟩⟩ hd hdp K hK
          case inr => exact absurd (hall 0 (by decide)) (by rw [hd]; decide)
          have c0 := cell_up hB hs6.1
          have c1 := cell_up hB hs6.2
          have HF : Hid _ := (And.intro hl (And.intro hB (And.intro f0 (And.intro f1 (And.intro f2 (And.intro f3 (And.intro f4 (And.intro f5 (And.intro f6 (And.intro f7 f8))))))))))
          clear f0 f1 f2 f3 f4 f5 f6 f7 f8 hB hdp hl hd
          refine Opn.mk ?_
          simp only [Act.put, List.setIfInBounds_toArray, List.set_cons_zero, List.set_cons_succ]
          go_simp
          obtain ⟨hl, hB, f0, f1, f2, f3, f4, f5, f6, f7, f8⟩ := HF.out
          exact hK.out _ _ ⟨.agg #[.int .i64 5, .int .i64 0], x25, x26, x27, x28, x29, x30, x31, x32, (by simp only [Act.put, List.setIfInBounds_toArray, List.set_cons_zero, List.set_cons_succ]), .inl ⟨by rw [upd_no (by decide)]; exact hl, hB.trans (Below.mono (Below.refl w'.heap.size w') hB.size), (fun _ => fun _ _ => rfl), (fun h1 => by first | exact (f1 (upd_ne h1 (by decide))).up (Below.refl w'.heap.size w') | exact fun _ _ => rfl), (fun h2 => by first | exact (f2 (upd_ne h2 (by decide))).up (Below.refl w'.heap.size w') | exact fun _ _ => rfl), (fun h3 => by first | exact (f3 (upd_ne h3 (by decide))).up (Below.refl w'.heap.size w') | exact fun _ _ => rfl), (fun h4 => by first | exact (f4 (upd_ne h4 (by decide))).up (Below.refl w'.heap.size w') | exact fun _ _ => rfl), (fun h5 => by first | exact (f5 (upd_ne h5 (by decide))).up (Below.refl w'.heap.size w') | exact fun _ _ => rfl), (fun h6 => by first | exact (f6 (upd_ne h6 (by decide))).up (Below.refl w'.heap.size w') | exact fun _ _ => rfl), (fun h7 => by first | exact (f7 (upd_ne h7 (by decide))).up (Below.refl w'.heap.size w') | exact fun _ _ => rfl), (fun h8 => by first | exact (f8 (upd_ne h8 (by decide))).up (Below.refl w'.heap.size w') | exact fun _ _ => rfl)⟩⟩
        · rintro d a w' ⟨x24, x25, x26, x27, x28, x29, x30, x31, x32, rfl, ⟨hl, hB, f0, f1, f2, f3, f4, f5, f6, f7, f8⟩ | ⟨hall, -⟩⟩ hd hdp K hK
          case inr => exact absurd (hall 1 (by decide)) (by rw [hd]; decide)
          obtain ⟨c0, c1, c2, -⟩ := bx4.up hB
          have HF : Hid _ := (And.intro hl (And.intro hB (And.intro f0 (And.intro f1 (And.intro f2 (And.intro f3 (And.intro f4 (And.intro f5 (And.intro f6 (And.intro f7 f8))))))))))
          clear f0 f1 f2 f3 f4 f5 f6 f7 f8 hB hdp hl hd
          refine Opn.mk ?_
          simp only [Act.put, List.setIfInBounds_toArray, List.set_cons_zero, List.set_cons_succ]
          go_simp
          obtain ⟨hl, hB, f0, f1, f2, f3, f4, f5, f6, f7, f8⟩ := HF.out
          exact hK.out _ _ ⟨x24, .agg #[.int .u64 1, .int .i64 0, .slice a4 n4 c4], x26, x27, x28, x29, x30, x31, x32, (by simp only [Act.put, List.setIfInBounds_toArray, List.set_cons_zero, List.set_cons_succ]), .inl ⟨by rw [upd_no (by decide)]; exact hl, hB.trans (Below.mono (Below.refl w'.heap.size w') hB.size), (fun h0 => by first | exact (f0 (upd_ne h0 (by decide))).up (Below.refl w'.heap.size w') | exact fun _ _ => rfl), (fun _ => fun _ _ => rfl), (fun h2 => by first | exact (f2 (upd_ne h2 (by decide))).up (Below.refl w'.heap.size w') | exact fun _ _ => rfl), (fun h3 => by first | exact (f3 (upd_ne h3 (by decide))).up (Below.refl w'.heap.size w') | exact fun _ _ => rfl), (fun h4 => by first | exact (f4 (upd_ne h4 (by decide))).up (Below.refl w'.heap.size w') | exact fun _ _ => rfl), (fun h5 => by first | exact (f5 (upd_ne h5 (by decide))).up (Below.refl w'.heap.size w') | exact fun _ _ => rfl), (fun h6 => by first | exact (f6 (upd_ne h6 (by decide))).up (Below.refl w'.heap.size w') | exact fun _ _ => rfl), (fun h7 => by first | exact (f7 (upd_ne h7 (by decide))).up (Below.refl w'.heap.size w') | exact fun _ _ => rfl), (fun h8 => by first | exact (f8 (upd_ne h8 (by decide))).up (Below.refl w'.heap.size w') | exact fun _ _ => rfl)⟩⟩
        · rintro d a w' ⟨x24, x25, x26, x27, x28, x29, x30, x31, x32, rfl, ⟨hl, hB, f0, f1, f2, f3, f4, f5, f6, f7, f8⟩ | ⟨hall, -⟩⟩ hd hdp K hK
          case inr => exact absurd (hall 2 (by decide)) (by rw [hd]; decide)
          have c0 := cell_up hB hs6.1
          have c1 := cell_up hB hs6.2
          have HF : Hid _ := (And.intro hl (And.intro hB (And.intro f0 (And.intro f1 (And.intro f2 (And.intro f3 (And.intro f4 (And.intro f5 (And.intro f6 (And.intro f7 f8))))))))))
          clear f0 f1 f2 f3 f4 f5 f6 f7 f8 hB hdp hl hd
          refine Opn.mk ?_
          simp only [Act.put, List.setIfInBounds_toArray, List.set_cons_zero, List.set_cons_succ]
          go_simp
          obtain ⟨hl, hB, f0, f1, f2, f3, f4, f5, f6, f7, f8⟩ := HF.out
          exact hK.out _ _ ⟨x24, x25, .agg #[.int .i64 5, .int .i64 0], x27, x28, x29, x30, x31, x32, (by simp only [Act.put, List.setIfInBounds_toArray, List.set_cons_zero, List.set_cons_succ]), .inl ⟨by rw [upd_no (by decide)]; exact hl, hB.trans (Below.mono (Below.refl w'.heap.size w') hB.size), (fun h0 => by first | exact (f0 (upd_ne h0 (by decide))).up (Below.refl w'.heap.size w') | exact fun _ _ => rfl), (fun h1 => by first | exact (f1 (upd_ne h1 (by decide))).up (Below.refl w'.heap.size w') | exact fun _ _ => rfl), (fun _ => fun _ _ => rfl), (fun h3 => by first | exact (f3 (upd_ne h3 (by decide))).up (Below.refl w'.heap.size w') | exact fun _ _ => rfl), (fun h4 => by first | exact (f4 (upd_ne h4 (by decide))).up (Below.refl w'.heap.size w') | exact fun _ _ => rfl), (fun h5 => by first | exact (f5 (upd_ne h5 (by decide))).up (Below.refl w'.heap.size w') | exact fun _ _ => rfl), (fun h6 => by first | exact (f6 (upd_ne h6 (by decide))).up (Below.refl w'.heap.size w') | exact fun _ _ => rfl), (fun h7 => by first | exact (f7 (upd_ne h7 (by decide))).up (Below.refl w'.heap.size w') | exact fun _ _ => rfl), (fun h8 => by first | exact (f8 (upd_ne h8 (by decide))).up (Below.refl w'.heap.size w') | exact fun _ _ => rfl)⟩⟩
        · rintro d a w' ⟨x24, x25, x26, x27, x28, x29, x30, x31, x32, rfl, ⟨hl, hB, f0, f1, f2, f3, f4, f5, f6, f7, f8⟩ | ⟨hall, -⟩⟩ hd hdp K hK
          case inr => exact absurd (hall 3 (by decide)) (by rw [hd]; decide)
          have c0 := cell_up hB hs6.1
          have c1 := cell_up hB hs6.2
          have HF : Hid _ := (And.intro hl (And.intro hB (And.intro f0 (And.intro f1 (And.intro f2 (And.intro f3 (And.intro f4 (And.intro f5 (And.intro f6 (And.intro f7 f8))))))))))
          clear f0 f1 f2 f3 f4 f5 f6 f7 f8 hB hdp hl hd
          refine Opn.mk ?_
          simp only [Act.put, List.setIfInBounds_toArray, List.set_cons_zero, List.set_cons_succ]
          go_simp
          obtain ⟨hl, hB, f0, f1, f2, f3, f4, f5, f6, f7, f8⟩ := HF.out
          exact hK.out _ _ ⟨x24, x25, x26, .agg #[.int .i64 5, .int .i64 0], x28, x29, x30, x31, x32, (by simp only [Act.put, List.setIfInBounds_toArray, List.set_cons_zero, List.set_cons_succ]), .inl ⟨by rw [upd_no (by decide)]; exact hl, hB.trans (Below.mono (Below.refl w'.heap.size w') hB.size), (fun h0 => by first | exact (f0 (upd_ne h0 (by decide))).up (Below.refl w'.heap.size w') | exact fun _ _ => rfl), (fun h1 => by first | exact (f1 (upd_ne h1 (by decide))).up (Below.refl w'.heap.size w') | exact fun _ _ => rfl), (fun h2 => by first | exact (f2 (upd_ne h2 (by decide))).up (Below.refl w'.heap.size w') | exact fun _ _ => rfl), (fun _ => fun _ _ => rfl), (fun h4 => by first | exact (f4 (upd_ne h4 (by decide))).up (Below.refl w'.heap.size w') | exact fun _ _ => rfl), (fun h5 => by first | exact (f5 (upd_ne h5 (by decide))).up (Below.refl w'.heap.size w') | exact fun _ _ => rfl), (fun h6 => by first | exact (f6 (upd_ne h6 (by decide))).up (Below.refl w'.heap.size w') | exact fun _ _ => rfl), (fun h7 => by first | exact (f7 (upd_ne h7 (by decide))).up (Below.refl w'.heap.size w') | exact fun _ _ => rfl), (fun h8 => by first | exact (f8 (upd_ne h8 (by decide))).up (Below.refl w'.heap.size w') | exact fun _ _ => rfl)⟩⟩
        · rintro d a w' ⟨x24, x25, x26, x27, x28, x29, x30, x31, x32, rfl, ⟨hl, hB, f0, f1, f2, f3, f4, f5, f6, f7, f8⟩ | ⟨hall, -⟩⟩ hd hdp K hK
          case inr => exact absurd (hall 4 (by decide)) (by rw [hd]; decide)
          obtain rfl := (f3 (hdp 3 (by decide +kernel))).now
          have HF : Hid _ := (And.intro hl (And.intro hB (And.intro f0 (And.intro f1 (And.intro f2 (And.intro f3 (And.intro f4 (And.intro f5 (And.intro f6 (And.intro f7 f8))))))))))
          clear f0 f1 f2 f3 f4 f5 f6 f7 f8 hB hdp hl hd
          refine Opn.mk ?_
          simp only [Act.put, List.setIfInBounds_toArray, List.set_cons_zero, List.set_cons_succ]
          go_simp
          go_wp2_with (first | (go_at_call 22; with_reducible refine (start_any _ 5 0).mono ?_; rintro e3 w3' ⟨rfl, g3⟩))
          obtain ⟨hl, hB, f0, f1, f2, f3, f4, f5, f6, f7, f8⟩ := HF.out
          exact hK.out _ _ ⟨x24, x25, x26, .agg #[.int .i64 5, .int .i64 0], .agg #[.int .u64 0, .int .i64 0, .slice none 0 0], x29, x30, x31, x32, (by simp only [Act.put, List.setIfInBounds_toArray, List.set_cons_zero, List.set_cons_succ]), .inl ⟨by rw [upd_no (by decide)]; exact hl, hB.trans (Below.mono (g3.below) hB.size), (fun h0 => by first | exact (f0 (upd_ne h0 (by decide))).up (g3.below) | exact fun _ _ => rfl), (fun h1 => by first | exact (f1 (upd_ne h1 (by decide))).up (g3.below) | exact fun _ _ => rfl), (fun h2 => by first | exact (f2 (upd_ne h2 (by decide))).up (g3.below) | exact fun _ _ => rfl), (fun h3 => by first | exact (f3 (upd_ne h3 (by decide))).up (g3.below) | exact fun _ _ => rfl), (fun _ => fun _ _ => rfl), (fun h5 => by first | exact (f5 (upd_ne h5 (by decide))).up (g3.below) | exact fun _ _ => rfl), (fun h6 => by first | exact (f6 (upd_ne h6 (by decide))).up (g3.below) | exact fun _ _ => rfl), (fun h7 => by first | exact (f7 (upd_ne h7 (by decide))).up (g3.below) | exact fun _ _ => rfl), (fun h8 => by first | exact (f8 (upd_ne h8 (by decide))).up (g3.below) | exact fun _ _ => rfl)⟩⟩
        · rintro d a w' ⟨x24, x25, x26, x27, x28, x29, x30, x31, x32, rfl, ⟨hl, hB, f0, f1, f2, f3, f4, f5, f6, f7, f8⟩ | ⟨hall, -⟩⟩ hd hdp K hK
          case inr => exact absurd (hall 5 (by decide)) (by rw [hd]; decide)
          skip
          have HF : Hid _ := (And.intro hl (And.intro hB (And.intro f0 (And.intro f1 (And.intro f2 (And.intro f3 (And.intro f4 (And.intro f5 (And.intro f6 (And.intro f7 f8))))))))))
          clear f0 f1 f2 f3 f4 f5 f6 f7 f8 hB hdp hl hd
          refine Opn.mk ?_
          simp only [Act.put, List.setIfInBounds_toArray, List.set_cons_zero, List.set_cons_succ]
          go_simp
          obtain ⟨hl, hB, f0, f1, f2, f3, f4, f5, f6, f7, f8⟩ := HF.out
          exact hK.out _ _ ⟨x24, x25, x26, x27, x28, .slice (some ⟨w'.heap.size, 0, none⟩) 1 1, x30, x31, x32, (by simp only [Act.put, List.setIfInBounds_toArray, List.set_cons_zero, List.set_cons_succ]), .inl ⟨by rw [upd_no (by decide)]; exact hl, hB.trans (Below.mono ((Grows.alloc _ _).below) hB.size), (fun h0 => by first | exact (f0 (upd_ne h0 (by decide))).up ((Grows.alloc _ _).below) | exact fun _ _ => rfl), (fun h1 => by first | exact (f1 (upd_ne h1 (by decide))).up ((Grows.alloc _ _).below) | exact fun _ _ => rfl), (fun h2 => by first | exact (f2 (upd_ne h2 (by decide))).up ((Grows.alloc _ _).below) | exact fun _ _ => rfl), (fun h3 => by first | exact (f3 (upd_ne h3 (by decide))).up ((Grows.alloc _ _).below) | exact fun _ _ => rfl), (fun h4 => by first | exact (f4 (upd_ne h4 (by decide))).up ((Grows.alloc _ _).below) | exact fun _ _ => rfl), (fun _ => fun X bX => ⟨_, rfl, cell_up bX (al_new _ _ _ rfl rfl)⟩), (fun h6 => by first | exact (f6 (upd_ne h6 (by decide))).up ((Grows.alloc _ _).below) | exact fun _ _ => rfl), (fun h7 => by first | exact (f7 (upd_ne h7 (by decide))).up ((Grows.alloc _ _).below) | exact fun _ _ => rfl), (fun h8 => by first | exact (f8 (upd_ne h8 (by decide))).up ((Grows.alloc _ _).below) | exact fun _ _ => rfl)⟩⟩
        · rintro d a w' ⟨x24, x25, x26, x27, x28, x29, x30, x31, x32, rfl, ⟨hl, hB, f0, f1, f2, f3, f4, f5, f6, f7, f8⟩ | ⟨hall, -⟩⟩ hd hdp K hK
          case inr => exact absurd (hall 6 (by decide)) (by rw [hd]; decide)
          have h9 := f5 (hdp 5 (by decide +kernel))
          obtain ⟨B, rfl, -⟩ := h9.now
          have HF : Hid _ := (And.intro hl (And.intro hB (And.intro f0 (And.intro f1 (And.intro f2 (And.intro f3 (And.intro f4 (And.intro f5 (And.intro f6 (And.intro f7 f8))))))))))
          clear f0 f1 f2 f3 f4 f5 f6 f7 f8 hB hdp hl hd
          refine Opn.mk ?_
          simp only [Act.put, List.setIfInBounds_toArray, List.set_cons_zero, List.set_cons_succ]
          go_simp
          obtain ⟨hl, hB, f0, f1, f2, f3, f4, f5, f6, f7, f8⟩ := HF.out
          exact hK.out _ _ ⟨x24, x25, x26, x27, x28, .slice (some ⟨B, 0, none⟩) 1 1, .agg #[.int .i64 0, .slice (some ⟨B, 0, none⟩) 1 1, .slice none 0 0], x31, x32, (by simp only [Act.put, List.setIfInBounds_toArray, List.set_cons_zero, List.set_cons_succ]), .inl ⟨by rw [upd_no (by decide)]; exact hl, hB.trans (Below.mono (Below.refl w'.heap.size w') hB.size), (fun h0 => by first | exact (f0 (upd_ne h0 (by decide))).up (Below.refl w'.heap.size w') | exact fun _ _ => rfl), (fun h1 => by first | exact (f1 (upd_ne h1 (by decide))).up (Below.refl w'.heap.size w') | exact fun _ _ => rfl), (fun h2 => by first | exact (f2 (upd_ne h2 (by decide))).up (Below.refl w'.heap.size w') | exact fun _ _ => rfl), (fun h3 => by first | exact (f3 (upd_ne h3 (by decide))).up (Below.refl w'.heap.size w') | exact fun _ _ => rfl), (fun h4 => by first | exact (f4 (upd_ne h4 (by decide))).up (Below.refl w'.heap.size w') | exact fun _ _ => rfl), (fun h5 => by first | exact (f5 (upd_ne h5 (by decide))).up (Below.refl w'.heap.size w') | exact fun _ _ => rfl), (fun _ => fun X bX => by obtain ⟨B', e, h⟩ := h9 X bX; cases e; exact ⟨_, rfl, h⟩), (fun h7 => by first | exact (f7 (upd_ne h7 (by decide))).up (Below.refl w'.heap.size w') | exact fun _ _ => rfl), (fun h8 => by first | exact (f8 (upd_ne h8 (by decide))).up (Below.refl w'.heap.size w') | exact fun _ _ => rfl)⟩⟩
        · rintro d a w' ⟨x24, x25, x26, x27, x28, x29, x30, x31, x32, rfl, ⟨hl, hB, f0, f1, f2, f3, f4, f5, f6, f7, f8⟩ | ⟨hall, -⟩⟩ hd hdp K hK
          case inr => exact absurd (hall 7 (by decide)) (by rw [hd]; decide)
          obtain rfl := (f2 (hdp 2 (by decide +kernel))).now
          obtain rfl := (f4 (hdp 4 (by decide +kernel))).now
          obtain ⟨B, rfl, h3⟩ := (f6 (hdp 6 (by decide +kernel))).now
          have HF : Hid _ := (And.intro hl (And.intro hB (And.intro f0 (And.intro f1 (And.intro f2 (And.intro f3 (And.intro f4 (And.intro f5 (And.intro f6 (And.intro f7 f8))))))))))
          clear f0 f1 f2 f3 f4 f5 f6 f7 f8 hB hdp hl hd
          refine Opn.mk ?_
          simp only [Act.put, List.setIfInBounds_toArray, List.set_cons_zero, List.set_cons_succ]
          go_simp
          go_wp2_with (first | (go_at_call 23; with_reducible refine (k6 _ _ h3).mono ?_; rintro e5 w5 ⟨r, rfl, ok5, new5, hr5, b5⟩))
          obtain ⟨hl, hB, f0, f1, f2, f3, f4, f5, f6, f7, f8⟩ := HF.out
          exact hK.out _ _ ⟨x24, x25, .agg #[.int .i64 5, .int .i64 0], x27, .agg #[.int .u64 0, .int .i64 0, .slice none 0 0], x29, .agg #[.int .i64 0, .slice (some ⟨B, 0, none⟩) 1 1, .slice none 0 0], .agg #[.int .u64 r.n, .int .i64 r.v, r.tv], x32, (by simp only [Act.put, List.setIfInBounds_toArray, List.set_cons_zero, List.set_cons_succ]), .inl ⟨by rw [upd_no (by decide)]; exact hl, hB.trans (Below.mono (b5) hB.size), (fun h0 => by first | exact (f0 (upd_ne h0 (by decide))).up (b5) | exact fun _ _ => rfl), (fun h1 => by first | exact (f1 (upd_ne h1 (by decide))).up (b5) | exact fun _ _ => rfl), (fun h2 => by first | exact (f2 (upd_ne h2 (by decide))).up (b5) | exact fun _ _ => rfl), (fun h3 => by first | exact (f3 (upd_ne h3 (by decide))).up (b5) | exact fun _ _ => rfl), (fun h4 => by first | exact (f4 (upd_ne h4 (by decide))).up (b5) | exact fun _ _ => rfl), (fun h5 => by first | exact (f5 (upd_ne h5 (by decide))).up (b5) | exact fun _ _ => rfl), (fun h6 => by first | exact (f6 (upd_ne h6 (by decide))).up (b5) | exact fun _ _ => rfl), (fun _ => fun X bX => ⟨r, rfl, hr5, ok5.up bX⟩), (fun h8 => by first | exact (f8 (upd_ne h8 (by decide))).up (b5) | exact fun _ _ => rfl)⟩⟩
        · rintro d a w' ⟨x24, x25, x26, x27, x28, x29, x30, x31, x32, rfl, ⟨hl, hB, f0, f1, f2, f3, f4, f5, f6, f7, f8⟩ | ⟨hall, -⟩⟩ hd hdp K hK
          case inr => exact absurd (hall 8 (by decide)) (by rw [hd]; decide)
          obtain rfl := (f0 (hdp 0 (by decide +kernel))).now
          obtain rfl := (f1 (hdp 1 (by decide +kernel))).now
          obtain ⟨r, e31, hr, okr⟩ := (f7 (hdp 7 (by decide +kernel))).now
          have kM := k7 w' r hB okr hr
          obtain ⟨a9, n9, c9, hv9⟩ := okr.rt.sl
          obtain ⟨rn, rv, rtv, rts⟩ := r
          simp only at hv9
          subst hv9
          subst e31
          have HB4 : Hid _ := bx4.lt
          clear hr okr
          have HF : Hid _ := (And.intro hl (And.intro hB (And.intro f0 (And.intro f1 (And.intro f2 (And.intro f3 (And.intro f4 (And.intro f5 (And.intro f6 (And.intro f7 f8))))))))))
          clear f0 f1 f2 f3 f4 f5 f6 f7 f8 hB hdp hl hd
          refine Opn.mk ?_
          simp only [Act.put, List.setIfInBounds_toArray, List.set_cons_zero, List.set_cons_succ]
          go_simp
          go_wp2_with (first | (go_at_call 21; with_reducible refine kM.mono ?_; rintro e8 w8 ⟨r8, rfl, ok8, new8, hr8, b8⟩))
          obtain ⟨hl, hB, f0, f1, f2, f3, f4, f5, f6, f7, f8⟩ := HF.out
          exact hK.out _ _ ⟨.agg #[.int .i64 5, .int .i64 0], .agg #[.int .u64 1, .int .i64 0, .slice a4 n4 c4], x26, x27, x28, x29, x30, .agg #[.int .u64 rn, .int .i64 rv, .slice a9 n9 c9], .agg #[.int .u64 r8.n, .int .i64 r8.v, r8.tv], (by simp only [Act.put, List.setIfInBounds_toArray, List.set_cons_zero, List.set_cons_succ]), .inl ⟨by rw [upd_no (by decide)]; exact hl, hB.trans (Below.mono (b8) hB.size), (fun h0 => by first | exact (f0 (upd_ne h0 (by decide))).up (b8) | exact fun _ _ => rfl), (fun h1 => by first | exact (f1 (upd_ne h1 (by decide))).up (b8) | exact fun _ _ => rfl), (fun h2 => by first | exact (f2 (upd_ne h2 (by decide))).up (b8) | exact fun _ _ => rfl), (fun h3 => by first | exact (f3 (upd_ne h3 (by decide))).up (b8) | exact fun _ _ => rfl), (fun h4 => by first | exact (f4 (upd_ne h4 (by decide))).up (b8) | exact fun _ _ => rfl), (fun h5 => by first | exact (f5 (upd_ne h5 (by decide))).up (b8) | exact fun _ _ => rfl), (fun h6 => by first | exact (f6 (upd_ne h6 (by decide))).up (b8) | exact fun _ _ => rfl), (fun h7 => by first | exact (f7 (upd_ne h7 (by decide))).up (b8) | exact fun _ _ => rfl), (fun _ => fun X bX => ⟨r8, rfl, hr8, fun u v z => (ok8.up bX).put3 new8 (Nat.lt_of_lt_of_le HB4.out hB.size) u v z⟩)⟩⟩
        · rintro d a w' ⟨x24, x25, x26, x27, x28, x29, x30, x31, x32, rfl, ⟨hl, hB, f0, f1, f2, f3, f4, f5, f6, f7, f8⟩ | ⟨hall, -⟩⟩ hd hdp K hK
          case inr => exact absurd (hall 9 (by decide)) (by rw [hd]; decide)
          obtain ⟨r, e32, hr, okp⟩ := (f8 (hdp 8 (by decide +kernel))).now
          have hall : ∀ j, j < 10 → upd d 9 j = true := fun j hj => by
            rcases (by omega : j = 0 ∨ j = 1 ∨ j = 2 ∨ j = 3 ∨ j = 4 ∨ j = 5 ∨ j = 6 ∨ j = 7 ∨ j = 8 ∨ j = 9) with rfl | rfl | rfl | rfl | rfl | rfl | rfl | rfl | rfl | rfl
            all_goals first | rfl | (rw [upd_no (by decide)]; exact hdp _ (by decide +kernel))
          subst e32
          have bx := bx4.up hB
          have HP : Hid _ := bx.put (.int .u64 r.n) (.int .i64 r.v) r.tv
          have HOK : Hid _ := okp
          have HH : Hid _ := And.intro hall hr
          have hsl : ∃ a n c, r.tv = .slice a n c := (okp undef undef undef).rt.sl
          obtain ⟨rn, rv, rtv, rts⟩ := r
          obtain ⟨a7, n7, c7, hv7⟩ := hsl
          simp only at hv7
          subst hv7
          obtain ⟨y0, y1, y2, yf⟩ := bx
          clear hall hr okp
          have HF : Hid _ := (And.intro hl (And.intro hB (And.intro f0 (And.intro f1 (And.intro f2 (And.intro f3 (And.intro f4 (And.intro f5 (And.intro f6 (And.intro f7 f8))))))))))
          clear f0 f1 f2 f3 f4 f5 f6 f7 f8 hB hdp hl hd
          refine Opn.mk ?_
          simp only [Act.put, List.setIfInBounds_toArray, List.set_cons_zero, List.set_cons_succ]
          go_simp
          obtain ⟨hl, hB, f0, f1, f2, f3, f4, f5, f6, f7, f8⟩ := HF.out
          obtain ⟨hall, hr⟩ := HH.out
          exact hK.out _ _ ⟨x24, x25, x26, x27, x28, x29, x30, x31, .agg #[.int .u64 rn, .int .i64 rv, .slice a7 n7 c7], (by simp only [Act.put, List.setIfInBounds_toArray, List.set_cons_zero, List.set_cons_succ]), .inr ⟨hall, ⟨rn, rv, .slice a7 n7 c7, rts⟩, HP.out, HOK.out _ _ _, hr, _, hB, rfl⟩⟩
      · rintro d a' w' hall ⟨x24, x25, x26, x27, x28, x29, x30, x31, x32, rfl, hI⟩
        rcases hI with ⟨hl, -⟩ | ⟨-, r, bx, ok, hr, X, bX, hX⟩
        · exact absurd (hall 9 (by decide)) (by rw [hl]; decide)
        obtain ⟨⟨bV5, bx2, ok2, hs⟩, bB, hle4, hs5⟩ := HS6.out
        have bW : Below V5.heap.size V5 w' := by rw [hX]; exact below_put3 (bB.trans (bX.mono bB.size)) hle4 _ _ _
        have bW0 : Hid (Below w.heap.size w w') := HWV.out.trans ((bV5.trans (bW.mono bV5.size)).mono HWV.out.size)
        have ok2' := ok2.up bW
        obtain ⟨y0, y1, y2, -⟩ := bx2.up bW
        have s0 := cell_up (bV5.trans (bW.mono bV5.size)) hs.1
        have s1 := cell_up (bV5.trans (bW.mono bV5.size)) hs.2
        have d0 := cell_up bW hs5.1
        have d1 := cell_up bW hs5.2
        obtain ⟨rn, rv, rtv, rts⟩ := r
        obtain ⟨a7, n7, c7, hv7⟩ := ok.rt.sl
        simp only at hv7
        subst hv7
        simp only [Pt.p0, Prod.mk.injEq] at hr
        obtain ⟨rfl, rfl, rfl⟩ := hr
        have hn7 : n7 = 2 := by have := (Rds.cells ok.rt).1; simpa [sv] using this
        subst hn7
        simp only at bx
        have kv1 := value_any w' 2 0 _ ok2'
        simp only [valP, Pt.p0] at kv1
        have HK : Hid _ := And.intro ok (And.intro bx (And.intro s0 (And.intro s1 (And.intro d0 d1))))
        obtain ⟨z0, z1, z2, -⟩ := bx
        clear hX bX X bW HS6 hs hs5 bV5 bx2 ok2 bB hle4 hs6 bx4 k6 k7 ok ok2'
        simp only [Act.put, List.setIfInBounds_toArray, List.set_cons_zero, List.set_cons_succ]
        go_wp2_with fail
        refine kv1.mono ?_
        rintro e X1 ⟨rfl, g1⟩
        obtain ⟨ok, bx, s0, s1, d0, d1⟩ := HK.out
        have kv2 := value_any X1 5 0 _ (ok.up g1.below)
        simp only [valP, Pt.p0] at kv2
        obtain ⟨z0', z1', z2', -⟩ := bx.up g1.below
        have d0' := cell_up g1.below d0
        have d1' := cell_up g1.below d1
        have HG1 : Hid (Below w'.heap.size w' X1) := g1.below
        clear g1 bx ok z0 z1 z2 y0 y1 y2 kv1 s0 s1 d0 d1
        go_wp2_with fail
        refine kv2.mono ?_
        rintro e X2 ⟨rfl, g2⟩
        obtain ⟨ok, bx, s0, s1, d0, d1⟩ := HK.out
        have g02 : Below w'.heap.size w' X2 := HG1.out.trans (g2.below.mono HG1.out.size)
        have s0' := cell_up g02 s0
        have s1' := cell_up g02 s1
        have kC := check_any (X2.alloc (.cells #[.int .i64 2, .int .i64 0] 26)) 0 0 (.slice (some ⟨X2.heap.size, 0, none⟩) 1 1) [(2, 0)] (by
          refine ⟨some ⟨X2.heap.size, 0, none⟩, 1, rfl, by simp [av], Nat.le_refl _, by decide, (fun h => by cases h), ?_⟩
          rintro ad ⟨rfl⟩ j u hj
          have hj2 : j < 2 := by have := (List.getElem?_eq_some_iff.1 hj).1; simpa [av] using this
          rcases (by omega : j = 0 ∨ j = 1) with rfl | rfl
          · simp [av] at hj; subst hj; rw [Addr.add_lit]; exact al_new _ _ _ rfl rfl
          · simp [av] at hj; subst hj; rw [Addr.add_lit]; exact al_new _ _ _ rfl rfl)
        have e1 : errB (decide (([(2, 0)] : List (Int × Int)).length ≤ 16) && fitsL 0 0 [(2, 0)]) = 1 := by decide
        rw [e1] at kC
        have HG2 : Hid _ := g02
        clear g02 g2 bx ok z0' z1' z2' d0' d1' kv2 s0 s1 d0 d1 HG1
        go_wp2_with fail
        refine kC.mono ?_
        rintro e X3 ⟨rfl, g3⟩
        have HB3 : Hid (Below w.heap.size w X3) := by
          have b2 := bW0.out.trans (HG2.out.mono bW0.out.size)
          have b3 := b2.trans (((Grows.alloc X2 (.cells #[.int .i64 2, .int .i64 0] 26)).below).mono b2.size)
          exact b3.trans (g3.below.mono b3.size)
        clear kC g3 s0' s1'
        go_wp2_with fail
        go_ret
        exact ⟨by first | rfl | simp, HB3.out⟩

end Go.Proofs.Ytkoihniggoelnaa
