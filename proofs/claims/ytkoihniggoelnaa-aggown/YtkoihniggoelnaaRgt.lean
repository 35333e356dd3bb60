/- The contract of 'right': a schema, an aggregator that may be, facts of it. -/
import Derived.Test.YtkoihniggoelnaaRgt0
namespace Go.Proofs.Ytkoihniggoelnaa
open Go.RowKit Go.Sort

/-- What 'right' answers. -/
def Rights (w : World) (e : Ending) (w' : World) : Prop := ∃ (k c : Int) (v : Value) (l : List En), e = .returned (.tuple #[.agg #[.int .i64 2, .int .i64 2], .agg #[.int .i64 k, .int .i64 c], v]) ∧ (1 ≤ k ∧ k ≤ 5 ∧ 0 ≤ c ∧ c ≤ 1) ∧ RdsM w' v l ∧ (∀ e ∈ l, FE w' w.heap.size e) ∧ l.length ≤ 40 ∧ Below w.heap.size w w'
/-- The same, and the row lies in new memory. -/
def Rights2 (w : World) (e : Ending) (w' : World) : Prop := ∃ (k c : Int) (v : Value) (l : List En), e = .returned (.tuple #[.agg #[.int .i64 2, .int .i64 2], .agg #[.int .i64 k, .int .i64 c], v]) ∧ (1 ≤ k ∧ k ≤ 5 ∧ 0 ≤ c ∧ c ≤ 1) ∧ RdsM w' v l ∧ (∀ e ∈ l, FE w' w.heap.size e) ∧ l.length ≤ 40 ∧ Below w.heap.size w w' ∧ New w.heap.size v
set_option maxRecDepth 100000 in
set_option maxHeartbeats 8000000 in
theorem right_new (w : World) (k c : Int) (v : Value) (raw : List En) (h : RdsM w v raw) (hk : In64 k) (hc : In64 c) :
    Calls Try.prog 15 #[.agg #[.int .i64 k, .int .i64 c], v] w (Rights2 w) := by
  obtain ⟨ao, n, cap, rfl⟩ := h.sl
  obtain ⟨hn, hc1, hc2⟩ := h.len
  have hc2' := hc2
  unfold maxLen at hc2
  obtain ⟨W1, hW1⟩ : ∃ W1, W1 = (((w.alloc (.cells #[.int .i64 k, .int .i64 c] 26)).alloc (.cells #[.int .i64 0, .int .i64 0] 23)).alloc (.cells #[.int .i64 0, .int .i64 0] 26)).alloc (.cells #[.int .i64 2, .int .i64 2] 23) := ⟨_, rfl⟩
  have g1 : Grows w W1 := by rw [hW1]; exact (((Grows.alloc _ _).trans (Grows.alloc _ _)).trans (Grows.alloc _ _)).trans (Grows.alloc _ _)
  have ha0 : W1.cell? ⟨w.heap.size, 0, none⟩ = some (.int .i64 k) ∧ W1.cell? ⟨w.heap.size, 1, none⟩ = some (.int .i64 c) := by
    rw [hW1]
    exact ⟨cell_up (((Grows.alloc _ _).trans (Grows.alloc _ _)).trans (Grows.alloc _ _)).below (al_new _ _ _ rfl rfl), cell_up (((Grows.alloc _ _).trans (Grows.alloc _ _)).trans (Grows.alloc _ _)).below (al_new _ _ _ rfl rfl)⟩
  have hsz : W1.heap.size = w.heap.size + 4 := by rw [hW1]; simp
  have hwlt : w.heap.size < W1.heap.size := by omega
  have hfz : ∀ z, W1.frozen? ⟨w.heap.size, z, none⟩ = false := fun z => by
    have h1 : (w.alloc (.cells #[.int .i64 k, .int .i64 c] 26)).frozen? ⟨w.heap.size, z, none⟩ = false := al_frz _ _ _ rfl
    rw [hW1, (((Grows.alloc _ _).trans (Grows.alloc _ _)).trans (Grows.alloc _ _)).below.frozen (by simp)]
    exact h1
  have hb4 : (W1.cell? ⟨w.heap.size + 1, 0, none⟩ = some (.int .i64 0) ∧ W1.cell? ⟨w.heap.size + 1, 1, none⟩ = some (.int .i64 0) ∧ ∀ z, W1.frozen? ⟨w.heap.size + 1, z, none⟩ = false) := by
    rw [hW1]
    refine ⟨cell_up ((Grows.alloc _ _).trans (Grows.alloc _ _)).below (al_new _ _ _ (by simp) rfl), cell_up ((Grows.alloc _ _).trans (Grows.alloc _ _)).below (al_new _ _ _ (by simp) rfl), fun z => ?_⟩
    rw [((Grows.alloc _ _).trans (Grows.alloc _ _)).below.frozen (by simp)]
    exact al_frz _ _ _ (by simp)
  have hb5 : (W1.cell? ⟨w.heap.size + 1 + 1, 0, none⟩ = some (.int .i64 0) ∧ W1.cell? ⟨w.heap.size + 1 + 1, 1, none⟩ = some (.int .i64 0) ∧ ∀ z, W1.frozen? ⟨w.heap.size + 1 + 1, z, none⟩ = false) := by
    rw [hW1]
    refine ⟨cell_up (Grows.alloc _ _).below (al_new _ _ _ (by simp) rfl), cell_up (Grows.alloc _ _).below (al_new _ _ _ (by simp) rfl), fun z => ?_⟩
    rw [(Grows.alloc _ _).below.frozen (by simp)]
    exact al_frz _ _ _ (by simp)
  have hb7 : W1.cell? ⟨w.heap.size + 1 + 1 + 1, 0, none⟩ = some (.int .i64 2) ∧ W1.cell? ⟨w.heap.size + 1 + 1 + 1, 1, none⟩ = some (.int .i64 2) := by
    rw [hW1]
    exact ⟨al_new _ _ _ (by simp) rfl, al_new _ _ _ (by simp) rfl⟩
  have kAk := fun X => abs_any X k hk
  have kAc := fun X => abs_any X c hc
  have hka := absI_nn hk
  have hca := absI_nn hc
  generalize absI k = ka at kAk hka
  generalize absI c = ca at kAc hca
  have RM5 : Hid (0 ≤ Int.tmod ka 5 ∧ Int.tmod ka 5 ≤ 4) := by
    rw [Int.tmod_eq_emod_of_nonneg hka.1]; exact ⟨by omega, by omega⟩
  have RM2 : Hid (0 ≤ Int.tmod ca 2 ∧ Int.tmod ca 2 ≤ 1) := by
    rw [Int.tmod_eq_emod_of_nonneg hca.1]; exact ⟨by omega, by omega⟩
  have mixed : Try.prog.follows .mixedOrders = true := by kernel_rfl
  have HN : Hid (n = raw.length) := hn
  have HB : Hid _ := And.intro hb4 (And.intro hb5 (And.intro hb7 (And.intro g1.below hsz)))
  have HH : Hid (RdsM w (.slice ao n cap) raw) := h
  have HW1 : Hid _ := hW1
  clear h hn hW1 g1 hb4 hb5 hb7 hk hc hsz
  go_enter Try.func15, Try.ntmps15
  go_wp2_with fail
  rw [← HW1.out]
  go_cut [2] (fun t wA => t = .pointer (some ⟨w.heap.size, 0, none⟩) ∧ Hid (∃ r q : Int, (1 ≤ r ∧ r ≤ 5 ∧ 0 ≤ q ∧ q ≤ 1) ∧ ∃ X, Below W1.heap.size W1 X ∧ wA = (X.setCell ⟨w.heap.size, 0, none⟩ (.int .i64 r)).setCell ⟨w.heap.size, 1, none⟩ (.int .i64 q)))
  case first =>
    refine wp_region_invA (fun a0 d a' w' => ∃ x13 x14 x15 x16 x17 x18 x19 x20 x21 x22 : Value, a' = ((((((((((a0.put (some 13) x13).put (some 14) x14).put (some 15) x15).put (some 16) x16).put (some 17) x17).put (some 18) x18).put (some 19) x19).put (some 20) x20).put (some 21) x21).put (some 22) x22) ∧ ((d 10 = false ∧ Below W1.heap.size W1 w' ∧ (d 0 = true → Evr w' (fun _ => x13 = .pointer (some ⟨w.heap.size, 0, none⟩))) ∧ (d 1 = true → Evr w' (fun _ => x14 = .int .i64 k)) ∧ (d 2 = true → Evr w' (fun _ => x15 = .int .i64 ka)) ∧ (d 3 = true → Evr w' (fun _ => ∃ r : Int, x16 = .int .i64 r ∧ 0 ≤ r ∧ r ≤ 4)) ∧ (d 4 = true → Evr w' (fun _ => ∃ r : Int, x17 = .int .i64 r ∧ 1 ≤ r ∧ r ≤ 5)) ∧ (d 5 = true → Evr w' (fun _ => x18 = .pointer (some ⟨w.heap.size, 1, none⟩))) ∧ (d 6 = true → Evr w' (fun _ => x19 = .int .i64 c)) ∧ (d 7 = true → Evr w' (fun _ => x20 = .int .i64 ca)) ∧ (d 8 = true → Evr w' (fun _ => ∃ r : Int, x21 = .int .i64 r ∧ 0 ≤ r ∧ r ≤ 1)) ∧ (d 9 = true → Evr w' (fun _ => ∃ r q : Int, x22 = .agg #[.int .i64 r, .int .i64 q] ∧ 1 ≤ r ∧ r ≤ 5 ∧ 0 ≤ q ∧ q ≤ 1))) ∨ ((∀ j, j < 11 → d j = true) ∧ ∃ r q : Int, (1 ≤ r ∧ r ≤ 5 ∧ 0 ≤ q ∧ q ≤ 1) ∧ ∃ X, Below W1.heap.size W1 X ∧ w' = (X.setCell ⟨w.heap.size, 0, none⟩ (.int .i64 r)).setCell ⟨w.heap.size, 1, none⟩ (.int .i64 q)))) mixed (by kernel_rfl) ?_ ?_ ?_
    · exact ⟨undef, undef, undef, undef, undef, undef, undef, undef, undef, undef, (by simp only [Act.put, List.setIfInBounds_toArray, List.set_cons_zero, List.set_cons_succ]), .inl ⟨rfl, below_dN (Below.refl _ _) 1, (fun h => by cases h), (fun h => by cases h), (fun h => by cases h), (fun h => by cases h), (fun h => by cases h), (fun h => by cases h), (fun h => by cases h), (fun h => by cases h), (fun h => by cases h), (fun h => by cases h)⟩⟩
    · refine ⟨?_, ?_, ?_, ?_, ?_, ?_, ?_, ?_, ?_, ?_, ?_, trivial⟩
      · rintro d a w' ⟨x13, x14, x15, x16, x17, x18, x19, x20, x21, x22, rfl, ⟨hl, hB, f0, f1, f2, f3, f4, f5, f6, f7, f8, f9⟩ | ⟨hall, -⟩⟩ hd hdp K hK
        case inr => exact absurd (hall 0 (by decide)) (by rw [hd]; decide)
        skip
        have HF : Hid _ := (And.intro hl (And.intro hB (And.intro f0 (And.intro f1 (And.intro f2 (And.intro f3 (And.intro f4 (And.intro f5 (And.intro f6 (And.intro f7 (And.intro f8 f9)))))))))))
        clear f0 f1 f2 f3 f4 f5 f6 f7 f8 f9 hB hdp hl hd
        refine Opn.mk ?_
        simp only [Act.put, List.setIfInBounds_toArray, List.set_cons_zero, List.set_cons_succ]
        go_simp
        obtain ⟨hl, hB, f0, f1, f2, f3, f4, f5, f6, f7, f8, f9⟩ := HF.out
        exact hK.out _ _ ⟨.pointer (some ⟨w.heap.size, 0, none⟩), x14, x15, x16, x17, x18, x19, x20, x21, x22, (by simp only [Act.put, List.setIfInBounds_toArray, List.set_cons_zero, List.set_cons_succ]), .inl ⟨by rw [upd_no (by decide)]; exact hl, hB.trans (Below.mono (Below.refl w'.heap.size w') hB.size), (fun _ => fun _ _ => rfl), (fun h1 => by first | exact (f1 (upd_ne h1 (by decide))).up (Below.refl w'.heap.size w') | exact fun _ _ => rfl), (fun h2 => by first | exact (f2 (upd_ne h2 (by decide))).up (Below.refl w'.heap.size w') | exact fun _ _ => rfl), (fun h3 => by first | exact (f3 (upd_ne h3 (by decide))).up (Below.refl w'.heap.size w') | exact fun _ _ => rfl), (fun h4 => by first | exact (f4 (upd_ne h4 (by decide))).up (Below.refl w'.heap.size w') | exact fun _ _ => rfl), (fun h5 => by first | exact (f5 (upd_ne h5 (by decide))).up (Below.refl w'.heap.size w') | exact fun _ _ => rfl), (fun h6 => by first | exact (f6 (upd_ne h6 (by decide))).up (Below.refl w'.heap.size w') | exact fun _ _ => rfl), (fun h7 => by first | exact (f7 (upd_ne h7 (by decide))).up (Below.refl w'.heap.size w') | exact fun _ _ => rfl), (fun h8 => by first | exact (f8 (upd_ne h8 (by decide))).up (Below.refl w'.heap.size w') | exact fun _ _ => rfl), (fun h9 => by first | exact (f9 (upd_ne h9 (by decide))).up (Below.refl w'.heap.size w') | exact fun _ _ => rfl)⟩⟩
      · rintro d a w' ⟨x13, x14, x15, x16, x17, x18, x19, x20, x21, x22, rfl, ⟨hl, hB, f0, f1, f2, f3, f4, f5, f6, f7, f8, f9⟩ | ⟨hall, -⟩⟩ hd hdp K hK
        case inr => exact absurd (hall 1 (by decide)) (by rw [hd]; decide)
        obtain rfl := (f0 (hdp 0 (by decide +kernel))).now
        have c0 := cell_up hB ha0.1
        have HF : Hid _ := (And.intro hl (And.intro hB (And.intro f0 (And.intro f1 (And.intro f2 (And.intro f3 (And.intro f4 (And.intro f5 (And.intro f6 (And.intro f7 (And.intro f8 f9)))))))))))
        clear f0 f1 f2 f3 f4 f5 f6 f7 f8 f9 hB hdp hl hd
        refine Opn.mk ?_
        simp only [Act.put, List.setIfInBounds_toArray, List.set_cons_zero, List.set_cons_succ]
        go_simp
        obtain ⟨hl, hB, f0, f1, f2, f3, f4, f5, f6, f7, f8, f9⟩ := HF.out
        exact hK.out _ _ ⟨.pointer (some ⟨w.heap.size, 0, none⟩), .int .i64 k, x15, x16, x17, x18, x19, x20, x21, x22, (by simp only [Act.put, List.setIfInBounds_toArray, List.set_cons_zero, List.set_cons_succ]), .inl ⟨by rw [upd_no (by decide)]; exact hl, hB.trans (Below.mono (Below.refl w'.heap.size w') hB.size), (fun h0 => by first | exact (f0 (upd_ne h0 (by decide))).up (Below.refl w'.heap.size w') | exact fun _ _ => rfl), (fun _ => fun _ _ => rfl), (fun h2 => by first | exact (f2 (upd_ne h2 (by decide))).up (Below.refl w'.heap.size w') | exact fun _ _ => rfl), (fun h3 => by first | exact (f3 (upd_ne h3 (by decide))).up (Below.refl w'.heap.size w') | exact fun _ _ => rfl), (fun h4 => by first | exact (f4 (upd_ne h4 (by decide))).up (Below.refl w'.heap.size w') | exact fun _ _ => rfl), (fun h5 => by first | exact (f5 (upd_ne h5 (by decide))).up (Below.refl w'.heap.size w') | exact fun _ _ => rfl), (fun h6 => by first | exact (f6 (upd_ne h6 (by decide))).up (Below.refl w'.heap.size w') | exact fun _ _ => rfl), (fun h7 => by first | exact (f7 (upd_ne h7 (by decide))).up (Below.refl w'.heap.size w') | exact fun _ _ => rfl), (fun h8 => by first | exact (f8 (upd_ne h8 (by decide))).up (Below.refl w'.heap.size w') | exact fun _ _ => rfl), (fun h9 => by first | exact (f9 (upd_ne h9 (by decide))).up (Below.refl w'.heap.size w') | exact fun _ _ => rfl)⟩⟩
      · rintro d a w' ⟨x13, x14, x15, x16, x17, x18, x19, x20, x21, x22, rfl, ⟨hl, hB, f0, f1, f2, f3, f4, f5, f6, f7, f8, f9⟩ | ⟨hall, -⟩⟩ hd hdp K hK
        case inr => exact absurd (hall 2 (by decide)) (by rw [hd]; decide)
        obtain rfl := (f1 (hdp 1 (by decide +kernel))).now
        have HF : Hid _ := (And.intro hl (And.intro hB (And.intro f0 (And.intro f1 (And.intro f2 (And.intro f3 (And.intro f4 (And.intro f5 (And.intro f6 (And.intro f7 (And.intro f8 f9)))))))))))
        clear f0 f1 f2 f3 f4 f5 f6 f7 f8 f9 hB hdp hl hd
        refine Opn.mk ?_
        simp only [Act.put, List.setIfInBounds_toArray, List.set_cons_zero, List.set_cons_succ]
        go_simp
        go_wp2_with (first | (go_at_call 27; with_reducible refine (kAk w').mono ?_; rintro e3 w3 ⟨rfl, rfl⟩))
        obtain ⟨hl, hB, f0, f1, f2, f3, f4, f5, f6, f7, f8, f9⟩ := HF.out
        exact hK.out _ _ ⟨x13, .int .i64 k, .int .i64 ka, x16, x17, x18, x19, x20, x21, x22, (by simp only [Act.put, List.setIfInBounds_toArray, List.set_cons_zero, List.set_cons_succ]), .inl ⟨by rw [upd_no (by decide)]; exact hl, hB.trans (Below.mono (Below.refl _ _) hB.size), (fun h0 => by first | exact (f0 (upd_ne h0 (by decide))).up (Below.refl _ _) | exact fun _ _ => rfl), (fun h1 => by first | exact (f1 (upd_ne h1 (by decide))).up (Below.refl _ _) | exact fun _ _ => rfl), (fun _ => fun _ _ => rfl), (fun h3 => by first | exact (f3 (upd_ne h3 (by decide))).up (Below.refl _ _) | exact fun _ _ => rfl), (fun h4 => by first | exact (f4 (upd_ne h4 (by decide))).up (Below.refl _ _) | exact fun _ _ => rfl), (fun h5 => by first | exact (f5 (upd_ne h5 (by decide))).up (Below.refl _ _) | exact fun _ _ => rfl), (fun h6 => by first | exact (f6 (upd_ne h6 (by decide))).up (Below.refl _ _) | exact fun _ _ => rfl), (fun h7 => by first | exact (f7 (upd_ne h7 (by decide))).up (Below.refl _ _) | exact fun _ _ => rfl), (fun h8 => by first | exact (f8 (upd_ne h8 (by decide))).up (Below.refl _ _) | exact fun _ _ => rfl), (fun h9 => by first | exact (f9 (upd_ne h9 (by decide))).up (Below.refl _ _) | exact fun _ _ => rfl)⟩⟩
      · rintro d a w' ⟨x13, x14, x15, x16, x17, x18, x19, x20, x21, x22, rfl, ⟨hl, hB, f0, f1, f2, f3, f4, f5, f6, f7, f8, f9⟩ | ⟨hall, -⟩⟩ hd hdp K hK
        case inr => exact absurd (hall 3 (by decide)) (by rw [hd]; decide)
        obtain rfl := (f2 (hdp 2 (by decide +kernel))).now
        have HF : Hid _ := (And.intro hl (And.intro hB (And.intro f0 (And.intro f1 (And.intro f2 (And.intro f3 (And.intro f4 (And.intro f5 (And.intro f6 (And.intro f7 (And.intro f8 f9)))))))))))
        clear f0 f1 f2 f3 f4 f5 f6 f7 f8 f9 hB hdp hl hd
        refine Opn.mk ?_
        simp only [Act.put, List.setIfInBounds_toArray, List.set_cons_zero, List.set_cons_succ]
        go_simp
        obtain ⟨hl, hB, f0, f1, f2, f3, f4, f5, f6, f7, f8, f9⟩ := HF.out
        exact hK.out _ _ ⟨x13, x14, .int .i64 ka, .int .i64 (Int.tmod ka 5), x17, x18, x19, x20, x21, x22, (by simp only [Act.put, List.setIfInBounds_toArray, List.set_cons_zero, List.set_cons_succ]), .inl ⟨by rw [upd_no (by decide)]; exact hl, hB.trans (Below.mono (Below.refl w'.heap.size w') hB.size), (fun h0 => by first | exact (f0 (upd_ne h0 (by decide))).up (Below.refl w'.heap.size w') | exact fun _ _ => rfl), (fun h1 => by first | exact (f1 (upd_ne h1 (by decide))).up (Below.refl w'.heap.size w') | exact fun _ _ => rfl), (fun h2 => by first | exact (f2 (upd_ne h2 (by decide))).up (Below.refl w'.heap.size w') | exact fun _ _ => rfl), (fun _ => fun _ _ => ⟨_, rfl, RM5.out⟩), (fun h4 => by first | exact (f4 (upd_ne h4 (by decide))).up (Below.refl w'.heap.size w') | exact fun _ _ => rfl), (fun h5 => by first | exact (f5 (upd_ne h5 (by decide))).up (Below.refl w'.heap.size w') | exact fun _ _ => rfl), (fun h6 => by first | exact (f6 (upd_ne h6 (by decide))).up (Below.refl w'.heap.size w') | exact fun _ _ => rfl), (fun h7 => by first | exact (f7 (upd_ne h7 (by decide))).up (Below.refl w'.heap.size w') | exact fun _ _ => rfl), (fun h8 => by first | exact (f8 (upd_ne h8 (by decide))).up (Below.refl w'.heap.size w') | exact fun _ _ => rfl), (fun h9 => by first | exact (f9 (upd_ne h9 (by decide))).up (Below.refl w'.heap.size w') | exact fun _ _ => rfl)⟩⟩
      · rintro d a w' ⟨x13, x14, x15, x16, x17, x18, x19, x20, x21, x22, rfl, ⟨hl, hB, f0, f1, f2, f3, f4, f5, f6, f7, f8, f9⟩ | ⟨hall, -⟩⟩ hd hdp K hK
        case inr => exact absurd (hall 4 (by decide)) (by rw [hd]; decide)
        obtain ⟨r, rfl, r0, r1⟩ := (f3 (hdp 3 (by decide +kernel))).now
        have hw : IntKind.i64.wrap (1 + r) = 1 + r := by rw [IntWalk.i64_left]; exact IntWalk.wrap64_in _ (by omega)
        have HR : Hid _ := And.intro r0 r1
        have HF : Hid _ := (And.intro hl (And.intro hB (And.intro f0 (And.intro f1 (And.intro f2 (And.intro f3 (And.intro f4 (And.intro f5 (And.intro f6 (And.intro f7 (And.intro f8 f9)))))))))))
        clear f0 f1 f2 f3 f4 f5 f6 f7 f8 f9 hB hdp hl hd
        refine Opn.mk ?_
        simp only [Act.put, List.setIfInBounds_toArray, List.set_cons_zero, List.set_cons_succ]
        go_simp
        obtain ⟨hl, hB, f0, f1, f2, f3, f4, f5, f6, f7, f8, f9⟩ := HF.out
        exact hK.out _ _ ⟨x13, x14, x15, .int .i64 r, .int .i64 (1 + r), x18, x19, x20, x21, x22, (by simp only [Act.put, List.setIfInBounds_toArray, List.set_cons_zero, List.set_cons_succ]), .inl ⟨by rw [upd_no (by decide)]; exact hl, hB.trans (Below.mono (Below.refl w'.heap.size w') hB.size), (fun h0 => by first | exact (f0 (upd_ne h0 (by decide))).up (Below.refl w'.heap.size w') | exact fun _ _ => rfl), (fun h1 => by first | exact (f1 (upd_ne h1 (by decide))).up (Below.refl w'.heap.size w') | exact fun _ _ => rfl), (fun h2 => by first | exact (f2 (upd_ne h2 (by decide))).up (Below.refl w'.heap.size w') | exact fun _ _ => rfl), (fun h3 => by first | exact (f3 (upd_ne h3 (by decide))).up (Below.refl w'.heap.size w') | exact fun _ _ => rfl), (fun _ => fun _ _ => ⟨_, rfl, by have := HR.out.1; omega, by have := HR.out.2; omega⟩), (fun h5 => by first | exact (f5 (upd_ne h5 (by decide))).up (Below.refl w'.heap.size w') | exact fun _ _ => rfl), (fun h6 => by first | exact (f6 (upd_ne h6 (by decide))).up (Below.refl w'.heap.size w') | exact fun _ _ => rfl), (fun h7 => by first | exact (f7 (upd_ne h7 (by decide))).up (Below.refl w'.heap.size w') | exact fun _ _ => rfl), (fun h8 => by first | exact (f8 (upd_ne h8 (by decide))).up (Below.refl w'.heap.size w') | exact fun _ _ => rfl), (fun h9 => by first | exact (f9 (upd_ne h9 (by decide))).up (Below.refl w'.heap.size w') | exact fun _ _ => rfl)⟩⟩
      · rintro d a w' ⟨x13, x14, x15, x16, x17, x18, x19, x20, x21, x22, rfl, ⟨hl, hB, f0, f1, f2, f3, f4, f5, f6, f7, f8, f9⟩ | ⟨hall, -⟩⟩ hd hdp K hK
        case inr => exact absurd (hall 5 (by decide)) (by rw [hd]; decide)
        skip
        have HF : Hid _ := (And.intro hl (And.intro hB (And.intro f0 (And.intro f1 (And.intro f2 (And.intro f3 (And.intro f4 (And.intro f5 (And.intro f6 (And.intro f7 (And.intro f8 f9)))))))))))
        clear f0 f1 f2 f3 f4 f5 f6 f7 f8 f9 hB hdp hl hd
        refine Opn.mk ?_
        simp only [Act.put, List.setIfInBounds_toArray, List.set_cons_zero, List.set_cons_succ]
        go_simp
        obtain ⟨hl, hB, f0, f1, f2, f3, f4, f5, f6, f7, f8, f9⟩ := HF.out
        exact hK.out _ _ ⟨x13, x14, x15, x16, x17, .pointer (some ⟨w.heap.size, 1, none⟩), x19, x20, x21, x22, (by simp only [Act.put, List.setIfInBounds_toArray, List.set_cons_zero, List.set_cons_succ]), .inl ⟨by rw [upd_no (by decide)]; exact hl, hB.trans (Below.mono (Below.refl w'.heap.size w') hB.size), (fun h0 => by first | exact (f0 (upd_ne h0 (by decide))).up (Below.refl w'.heap.size w') | exact fun _ _ => rfl), (fun h1 => by first | exact (f1 (upd_ne h1 (by decide))).up (Below.refl w'.heap.size w') | exact fun _ _ => rfl), (fun h2 => by first | exact (f2 (upd_ne h2 (by decide))).up (Below.refl w'.heap.size w') | exact fun _ _ => rfl), (fun h3 => by first | exact (f3 (upd_ne h3 (by decide))).up (Below.refl w'.heap.size w') | exact fun _ _ => rfl), (fun h4 => by first | exact (f4 (upd_ne h4 (by decide))).up (Below.refl w'.heap.size w') | exact fun _ _ => rfl), (fun _ => fun _ _ => rfl), (fun h6 => by first | exact (f6 (upd_ne h6 (by decide))).up (Below.refl w'.heap.size w') | exact fun _ _ => rfl), (fun h7 => by first | exact (f7 (upd_ne h7 (by decide))).up (Below.refl w'.heap.size w') | exact fun _ _ => rfl), (fun h8 => by first | exact (f8 (upd_ne h8 (by decide))).up (Below.refl w'.heap.size w') | exact fun _ _ => rfl), (fun h9 => by first | exact (f9 (upd_ne h9 (by decide))).up (Below.refl w'.heap.size w') | exact fun _ _ => rfl)⟩⟩
      · rintro d a w' ⟨x13, x14, x15, x16, x17, x18, x19, x20, x21, x22, rfl, ⟨hl, hB, f0, f1, f2, f3, f4, f5, f6, f7, f8, f9⟩ | ⟨hall, -⟩⟩ hd hdp K hK
        case inr => exact absurd (hall 6 (by decide)) (by rw [hd]; decide)
        obtain rfl := (f5 (hdp 5 (by decide +kernel))).now
        have c0 := cell_up hB ha0.2
        have HF : Hid _ := (And.intro hl (And.intro hB (And.intro f0 (And.intro f1 (And.intro f2 (And.intro f3 (And.intro f4 (And.intro f5 (And.intro f6 (And.intro f7 (And.intro f8 f9)))))))))))
        clear f0 f1 f2 f3 f4 f5 f6 f7 f8 f9 hB hdp hl hd
        refine Opn.mk ?_
        simp only [Act.put, List.setIfInBounds_toArray, List.set_cons_zero, List.set_cons_succ]
        go_simp
        obtain ⟨hl, hB, f0, f1, f2, f3, f4, f5, f6, f7, f8, f9⟩ := HF.out
        exact hK.out _ _ ⟨x13, x14, x15, x16, x17, .pointer (some ⟨w.heap.size, 1, none⟩), .int .i64 c, x20, x21, x22, (by simp only [Act.put, List.setIfInBounds_toArray, List.set_cons_zero, List.set_cons_succ]), .inl ⟨by rw [upd_no (by decide)]; exact hl, hB.trans (Below.mono (Below.refl w'.heap.size w') hB.size), (fun h0 => by first | exact (f0 (upd_ne h0 (by decide))).up (Below.refl w'.heap.size w') | exact fun _ _ => rfl), (fun h1 => by first | exact (f1 (upd_ne h1 (by decide))).up (Below.refl w'.heap.size w') | exact fun _ _ => rfl), (fun h2 => by first | exact (f2 (upd_ne h2 (by decide))).up (Below.refl w'.heap.size w') | exact fun _ _ => rfl), (fun h3 => by first | exact (f3 (upd_ne h3 (by decide))).up (Below.refl w'.heap.size w') | exact fun _ _ => rfl), (fun h4 => by first | exact (f4 (upd_ne h4 (by decide))).up (Below.refl w'.heap.size w') | exact fun _ _ => rfl), (fun h5 => by first | exact (f5 (upd_ne h5 (by decide))).up (Below.refl w'.heap.size w') | exact fun _ _ => rfl), (fun _ => fun _ _ => rfl), (fun h7 => by first | exact (f7 (upd_ne h7 (by decide))).up (Below.refl w'.heap.size w') | exact fun _ _ => rfl), (fun h8 => by first | exact (f8 (upd_ne h8 (by decide))).up (Below.refl w'.heap.size w') | exact fun _ _ => rfl), (fun h9 => by first | exact (f9 (upd_ne h9 (by decide))).up (Below.refl w'.heap.size w') | exact fun _ _ => rfl)⟩⟩
      · rintro d a w' ⟨x13, x14, x15, x16, x17, x18, x19, x20, x21, x22, rfl, ⟨hl, hB, f0, f1, f2, f3, f4, f5, f6, f7, f8, f9⟩ | ⟨hall, -⟩⟩ hd hdp K hK
        case inr => exact absurd (hall 7 (by decide)) (by rw [hd]; decide)
        obtain rfl := (f6 (hdp 6 (by decide +kernel))).now
        have HF : Hid _ := (And.intro hl (And.intro hB (And.intro f0 (And.intro f1 (And.intro f2 (And.intro f3 (And.intro f4 (And.intro f5 (And.intro f6 (And.intro f7 (And.intro f8 f9)))))))))))
        clear f0 f1 f2 f3 f4 f5 f6 f7 f8 f9 hB hdp hl hd
        refine Opn.mk ?_
        simp only [Act.put, List.setIfInBounds_toArray, List.set_cons_zero, List.set_cons_succ]
        go_simp
        go_wp2_with (first | (go_at_call 27; with_reducible refine (kAc w').mono ?_; rintro e3 w3 ⟨rfl, rfl⟩))
        obtain ⟨hl, hB, f0, f1, f2, f3, f4, f5, f6, f7, f8, f9⟩ := HF.out
        exact hK.out _ _ ⟨x13, x14, x15, x16, x17, x18, .int .i64 c, .int .i64 ca, x21, x22, (by simp only [Act.put, List.setIfInBounds_toArray, List.set_cons_zero, List.set_cons_succ]), .inl ⟨by rw [upd_no (by decide)]; exact hl, hB.trans (Below.mono (Below.refl _ _) hB.size), (fun h0 => by first | exact (f0 (upd_ne h0 (by decide))).up (Below.refl _ _) | exact fun _ _ => rfl), (fun h1 => by first | exact (f1 (upd_ne h1 (by decide))).up (Below.refl _ _) | exact fun _ _ => rfl), (fun h2 => by first | exact (f2 (upd_ne h2 (by decide))).up (Below.refl _ _) | exact fun _ _ => rfl), (fun h3 => by first | exact (f3 (upd_ne h3 (by decide))).up (Below.refl _ _) | exact fun _ _ => rfl), (fun h4 => by first | exact (f4 (upd_ne h4 (by decide))).up (Below.refl _ _) | exact fun _ _ => rfl), (fun h5 => by first | exact (f5 (upd_ne h5 (by decide))).up (Below.refl _ _) | exact fun _ _ => rfl), (fun h6 => by first | exact (f6 (upd_ne h6 (by decide))).up (Below.refl _ _) | exact fun _ _ => rfl), (fun _ => fun _ _ => rfl), (fun h8 => by first | exact (f8 (upd_ne h8 (by decide))).up (Below.refl _ _) | exact fun _ _ => rfl), (fun h9 => by first | exact (f9 (upd_ne h9 (by decide))).up (Below.refl _ _) | exact fun _ _ => rfl)⟩⟩
      · rintro d a w' ⟨x13, x14, x15, x16, x17, x18, x19, x20, x21, x22, rfl, ⟨hl, hB, f0, f1, f2, f3, f4, f5, f6, f7, f8, f9⟩ | ⟨hall, -⟩⟩ hd hdp K hK
        case inr => exact absurd (hall 8 (by decide)) (by rw [hd]; decide)
        obtain rfl := (f7 (hdp 7 (by decide +kernel))).now
        have HF : Hid _ := (And.intro hl (And.intro hB (And.intro f0 (And.intro f1 (And.intro f2 (And.intro f3 (And.intro f4 (And.intro f5 (And.intro f6 (And.intro f7 (And.intro f8 f9)))))))))))
        clear f0 f1 f2 f3 f4 f5 f6 f7 f8 f9 hB hdp hl hd
        refine Opn.mk ?_
        simp only [Act.put, List.setIfInBounds_toArray, List.set_cons_zero, List.set_cons_succ]
        go_simp
        obtain ⟨hl, hB, f0, f1, f2, f3, f4, f5, f6, f7, f8, f9⟩ := HF.out
        exact hK.out _ _ ⟨x13, x14, x15, x16, x17, x18, x19, .int .i64 ca, .int .i64 (Int.tmod ca 2), x22, (by simp only [Act.put, List.setIfInBounds_toArray, List.set_cons_zero, List.set_cons_succ]), .inl ⟨by rw [upd_no (by decide)]; exact hl, hB.trans (Below.mono (Below.refl w'.heap.size w') hB.size), (fun h0 => by first | exact (f0 (upd_ne h0 (by decide))).up (Below.refl w'.heap.size w') | exact fun _ _ => rfl), (fun h1 => by first | exact (f1 (upd_ne h1 (by decide))).up (Below.refl w'.heap.size w') | exact fun _ _ => rfl), (fun h2 => by first | exact (f2 (upd_ne h2 (by decide))).up (Below.refl w'.heap.size w') | exact fun _ _ => rfl), (fun h3 => by first | exact (f3 (upd_ne h3 (by decide))).up (Below.refl w'.heap.size w') | exact fun _ _ => rfl), (fun h4 => by first | exact (f4 (upd_ne h4 (by decide))).up (Below.refl w'.heap.size w') | exact fun _ _ => rfl), (fun h5 => by first | exact (f5 (upd_ne h5 (by decide))).up (Below.refl w'.heap.size w') | exact fun _ _ => rfl), (fun h6 => by first | exact (f6 (upd_ne h6 (by decide))).up (Below.refl w'.heap.size w') | exact fun _ _ => rfl), (fun h7 => by first | exact (f7 (upd_ne h7 (by decide))).up (Below.refl w'.heap.size w') | exact fun _ _ => rfl), (fun _ => fun _ _ => ⟨_, rfl, RM2.out⟩), (fun h9 => by first | exact (f9 (upd_ne h9 (by decide))).up (Below.refl w'.heap.size w') | exact fun _ _ => rfl)⟩⟩
      · rintro d a w' ⟨x13, x14, x15, x16, x17, x18, x19, x20, x21, x22, rfl, ⟨hl, hB, f0, f1, f2, f3, f4, f5, f6, f7, f8, f9⟩ | ⟨hall, -⟩⟩ hd hdp K hK
        case inr => exact absurd (hall 9 (by decide)) (by rw [hd]; decide)
        obtain ⟨r, rfl, r0, r1⟩ := (f4 (hdp 4 (by decide +kernel))).now
        obtain ⟨q, rfl, q0, q1⟩ := (f8 (hdp 8 (by decide +kernel))).now
        have HR : Hid _ := And.intro r0 (And.intro r1 (And.intro q0 q1))
        clear r0 r1 q0 q1
        have HF : Hid _ := (And.intro hl (And.intro hB (And.intro f0 (And.intro f1 (And.intro f2 (And.intro f3 (And.intro f4 (And.intro f5 (And.intro f6 (And.intro f7 (And.intro f8 f9)))))))))))
        clear f0 f1 f2 f3 f4 f5 f6 f7 f8 f9 hB hdp hl hd
        refine Opn.mk ?_
        simp only [Act.put, List.setIfInBounds_toArray, List.set_cons_zero, List.set_cons_succ]
        go_simp
        obtain ⟨hl, hB, f0, f1, f2, f3, f4, f5, f6, f7, f8, f9⟩ := HF.out
        exact hK.out _ _ ⟨x13, x14, x15, x16, .int .i64 r, x18, x19, x20, .int .i64 q, .agg #[.int .i64 r, .int .i64 q], (by simp only [Act.put, List.setIfInBounds_toArray, List.set_cons_zero, List.set_cons_succ]), .inl ⟨by rw [upd_no (by decide)]; exact hl, hB.trans (Below.mono (Below.refl w'.heap.size w') hB.size), (fun h0 => by first | exact (f0 (upd_ne h0 (by decide))).up (Below.refl w'.heap.size w') | exact fun _ _ => rfl), (fun h1 => by first | exact (f1 (upd_ne h1 (by decide))).up (Below.refl w'.heap.size w') | exact fun _ _ => rfl), (fun h2 => by first | exact (f2 (upd_ne h2 (by decide))).up (Below.refl w'.heap.size w') | exact fun _ _ => rfl), (fun h3 => by first | exact (f3 (upd_ne h3 (by decide))).up (Below.refl w'.heap.size w') | exact fun _ _ => rfl), (fun h4 => by first | exact (f4 (upd_ne h4 (by decide))).up (Below.refl w'.heap.size w') | exact fun _ _ => rfl), (fun h5 => by first | exact (f5 (upd_ne h5 (by decide))).up (Below.refl w'.heap.size w') | exact fun _ _ => rfl), (fun h6 => by first | exact (f6 (upd_ne h6 (by decide))).up (Below.refl w'.heap.size w') | exact fun _ _ => rfl), (fun h7 => by first | exact (f7 (upd_ne h7 (by decide))).up (Below.refl w'.heap.size w') | exact fun _ _ => rfl), (fun h8 => by first | exact (f8 (upd_ne h8 (by decide))).up (Below.refl w'.heap.size w') | exact fun _ _ => rfl), (fun _ => fun _ _ => ⟨r, q, rfl, HR.out⟩)⟩⟩
      · rintro d a w' ⟨x13, x14, x15, x16, x17, x18, x19, x20, x21, x22, rfl, ⟨hl, hB, f0, f1, f2, f3, f4, f5, f6, f7, f8, f9⟩ | ⟨hall, -⟩⟩ hd hdp K hK
        case inr => exact absurd (hall 10 (by decide)) (by rw [hd]; decide)
        obtain ⟨r, q, e22, hrq⟩ := (f9 (hdp 9 (by decide +kernel))).now
        have hall : ∀ j, j < 11 → upd d 10 j = true := fun j hj => by
          rcases (by omega : j = 0 ∨ j = 1 ∨ j = 2 ∨ j = 3 ∨ j = 4 ∨ j = 5 ∨ j = 6 ∨ j = 7 ∨ j = 8 ∨ j = 9 ∨ j = 10) with rfl | rfl | rfl | rfl | rfl | rfl | rfl | rfl | rfl | rfl | rfl
          all_goals first | rfl | (rw [upd_no (by decide)]; exact hdp _ (by decide +kernel))
        subst e22
        have HH : Hid _ := And.intro hall hrq
        have c0 := cell_up hB ha0.1
        have c1 := cell_up hB ha0.2
        have fr := fun z => hB.frozen (p := ⟨w.heap.size, z, none⟩) hwlt
        have fr0 := fun z => (fr z).trans (hfz z)
        clear hall hrq fr
        have HF : Hid _ := (And.intro hl (And.intro hB (And.intro f0 (And.intro f1 (And.intro f2 (And.intro f3 (And.intro f4 (And.intro f5 (And.intro f6 (And.intro f7 (And.intro f8 f9)))))))))))
        clear f0 f1 f2 f3 f4 f5 f6 f7 f8 f9 hB hdp hl hd
        refine Opn.mk ?_
        simp only [Act.put, List.setIfInBounds_toArray, List.set_cons_zero, List.set_cons_succ]
        go_simp
        obtain ⟨hl, hB, f0, f1, f2, f3, f4, f5, f6, f7, f8, f9⟩ := HF.out
        obtain ⟨hall, hrq⟩ := HH.out
        exact hK.out _ _ ⟨x13, x14, x15, x16, x17, x18, x19, x20, x21, .agg #[.int .i64 r, .int .i64 q], (by simp only [Act.put, List.setIfInBounds_toArray, List.set_cons_zero, List.set_cons_succ]), .inr ⟨hall, r, q, hrq, w', hB, rfl⟩⟩
    · rintro d a' w' hall ⟨x13, x14, x15, x16, x17, x18, x19, x20, x21, x22, rfl, hI⟩
      rcases hI with ⟨hl, -⟩ | ⟨-, r, q, hrq, X, bX, hX⟩
      · exact absurd (hall 10 (by decide)) (by rw [hl]; decide)
      have HX : Hid (∃ r q : Int, (1 ≤ r ∧ r ≤ 5 ∧ 0 ≤ q ∧ q ≤ 1) ∧ ∃ X, Below W1.heap.size W1 X ∧ w' = (X.setCell ⟨w.heap.size, 0, none⟩ (.int .i64 r)).setCell ⟨w.heap.size, 1, none⟩ (.int .i64 q)) := ⟨r, q, hrq, X, bX, hX⟩
      clear hrq bX hX
      simp only [Act.put, List.setIfInBounds_toArray, List.set_cons_zero, List.set_cons_succ]
      go_wp2_with fail
      go_meet
      case rel => exact ⟨rfl, HX⟩
  case rest =>
    rename World => wA
    obtain ⟨rfl, HC⟩ := hcut
    obtain ⟨r, q, hrq, X, bX, hX⟩ := HC.out
    obtain ⟨⟨z40, z41, z4f⟩, ⟨z50, z51, z5f⟩, ⟨z70, z71⟩, b1, hsz⟩ := HB.out
    have hbX := bX.size
    have far : ∀ (g o : Nat) (u : Value), w.heap.size < g → g < W1.heap.size → W1.cell? ⟨g, o, none⟩ = some u → wA.cell? ⟨g, o, none⟩ = some u := fun g o u h1 h2 h3 => by
      rw [hX, World.cell?_setCell_far _ _ _ _ (by show w.heap.size ≠ g; omega), World.cell?_setCell_far _ _ _ _ (by show w.heap.size ≠ g; omega)]
      exact cell_up bX h3
    have farf : ∀ (g o : Nat), w.heap.size < g → g < W1.heap.size → W1.frozen? ⟨g, o, none⟩ = false → wA.frozen? ⟨g, o, none⟩ = false := fun g o h1 h2 h3 => by
      rw [hX]
      simp
      rw [bX.frozen (p := ⟨g, o, none⟩) h2]
      exact h3
    have bA : Below w.heap.size w wA := by
      rw [hX]
      exact ((b1.trans (bX.mono b1.size)).setCell (p := ⟨w.heap.size, 0, none⟩) (Nat.le_refl _) _).setCell (p := ⟨w.heap.size, 1, none⟩) (Nat.le_refl _) _
    have s0 : wA.cell? ⟨w.heap.size, 0, none⟩ = some (.int .i64 r) := by
      rw [hX, World.cell?_setCell_other _ _ _ _ (by simp)]
      exact World.cell?_setCell_same _ _ _ (cell_up bX ha0.1)
    have s1 : wA.cell? ⟨w.heap.size, 1, none⟩ = some (.int .i64 q) := by
      rw [hX]
      exact World.cell?_setCell_same _ _ _ (by rw [World.cell?_setCell_other _ _ _ _ (by simp)]; exact cell_up bX ha0.2)
    have hAs : W1.heap.size ≤ wA.heap.size := by rw [hX]; simpa using hbX
    have HS : Hid _ := And.intro s0 (And.intro s1 (And.intro (far _ _ _ (by omega) (by omega) z40) (And.intro (far _ _ _ (by omega) (by omega) z41) (And.intro (fun z => farf _ z (by omega) (by omega) (z4f z)) (And.intro (far _ _ _ (by omega) (by omega) z50) (And.intro (far _ _ _ (by omega) (by omega) z51) (And.intro (fun z => farf _ z (by omega) (by omega) (z5f z)) (And.intro (far _ _ _ (by omega) (by omega) z70) (far _ _ _ (by omega) (by omega) z71)))))))))
    have HA : Hid (Below w.heap.size w wA ∧ (1 ≤ r ∧ r ≤ 5 ∧ 0 ≤ q ∧ q ≤ 1) ∧ w.heap.size + 1 < wA.heap.size ∧ w.heap.size + 1 + 1 < wA.heap.size) := ⟨bA, hrq, by omega, by omega⟩
    have HRA : Hid (RdsM wA (.slice ao n cap) raw) := HH.out.below bA
    clear kAk kAc RM5 RM2 hka hca HC HB HH s0 s1 z40 z41 z4f z50 z51 z5f z70 z71 b1 hsz hX bX far farf bA hAs hbX ha0 hwlt hfz HW1 hrq
    go_wp2_with fail
    go_loopg [8, 9] n (fun kx v8 v9 wr => ∃ (i m : Nat) (out : List En), v9 = .int .i64 i ∧ i ≤ n ∧ i ≤ 40 ∧ n - i ≤ kx ∧ m ≤ i ∧ wr.ownsRow wA.heap.size 49 4 v8 m (ev out) ∧ Hid (m = out.length ∧ (∀ e ∈ out, FE wr wA.heap.size e)) ∧ Below wA.heap.size wA wr)
    case atStart => exact ⟨0, 0, [], rfl, by omega, by omega, Nat.le_refl _, Nat.le_refl _, World.ownsRow_nil _ _ _ _, ⟨rfl, fun _ h => by cases h⟩, Below.refl _ _⟩
    case round =>
      obtain ⟨i, m, out, rfl, hin, hi40, hkx, hmi, own, HX, bel⟩ := hrel
      by_cases hlt : i < n
      · have hltz : (i : Int) < (n : Int) := by omega
        by_cases hl4 : i < 40
        · have hl4z : (i : Int) < 40 := by omega
          have hil : i < raw.length := by have := HN.out; omega
          have hr := HRA.out.below bel
          obtain ⟨-, -, -, b, off, rfl, hcell⟩ := hr.at (by omega)
          obtain ⟨t0, t1, t2, t3⟩ := hcell i hil
          have okf := hr.ok raw[i] (List.getElem_mem hil)
          have HBA : Hid (b < wA.heap.size) := by
            obtain ⟨-, -, -, b', off', e, hc⟩ := HRA.out.at (by omega)
            cases e
            exact World.block_lt_of_cell? _ _ (hc i hil).1
          obtain ⟨ad, nd, cd, am, nm, cm, e1, e2, e3, e4, -, hcd, -, hcm, cD, cM⟩ := okf.lens
          rw [e1] at t1
          rw [e2] at t2
          obtain ⟨W, hW⟩ : ∃ W, W = ((wr.alloc (.cells #[.string ⟨#[]⟩, .string ⟨#[]⟩] 9)).alloc (.cells #[.int .i64 0, .int .i64 0] 2)).alloc (.cells #[.int .i64 raw[i].f.t, .slice (some ⟨wr.heap.size, 0, none⟩) 2 2, .slice (some ⟨wr.heap.size + 1, 0, none⟩) 2 2] 47) := ⟨_, rfl⟩
          have gW : Grows wr W := by rw [hW]; exact ((Grows.alloc _ _).trans (Grows.alloc _ _)).trans (Grows.alloc _ _)
          have hIN : IN wr wr.heap.size (wr.heap.size + 1) (wr.heap.size + 1 + 1) raw[i].f.t W [] [] 0 0 := by
            refine ⟨?_, ?_, ?_, by simp, by simp, gW.below, by omega, by omega⟩
            · rw [hW]
              exact ((own_full wr _ #[.string ⟨#[]⟩, .string ⟨#[]⟩] 2 (by decide) rfl).alloc _).alloc _
            · rw [hW]
              have h1 := own_full (wr.alloc (.cells #[.string ⟨#[]⟩, .string ⟨#[]⟩] 9)) 2 #[.int .i64 0, .int .i64 0] 2 (by decide) rfl
              rw [show (wr.alloc (.cells #[.string ⟨#[]⟩, .string ⟨#[]⟩] 9)).heap.size = wr.heap.size + 1 by simp] at h1
              exact (own_mono h1 (by omega)).alloc _
            · rw [hW]; exact Box3.new _ _ _ _ _ _ (by simp)
          have HT : Hid _ := And.intro t0 (And.intro t1 (And.intro t2 (And.intro t3 (And.intro cD (And.intro cM (And.intro e3 e4))))))
          have HIN : Hid _ := hIN
          have HOW : Hid _ := And.intro own (And.intro bel gW.below)
          have HW : Hid _ := hW
          obtain ⟨tt, htt⟩ : ∃ tt, tt = raw[i].f.t := ⟨_, rfl⟩
          rw [← htt] at t0 HIN HT HW
          have HTT : Hid _ := htt
          clear hIN gW okf hr hcell e1 e2 hW own bel cD cM t1 t2 t3 e3 e4 htt
          go_wp2_with fail
          rw [← HW.out]
          go_loopg [11] 2 (fun kx v11 wi => ∃ kk : Nat, v11 = .int .i64 kk ∧ kk ≤ 2 ∧ 2 - kk ≤ kx ∧ Hid (∃ d0 d1 m0 m1, IN wr (wr.heap.size) (wr.heap.size + 1) (wr.heap.size + 1 + 1) tt wi d0 d1 m0 m1))
          case atStart => exact ⟨0, rfl, by omega, by omega, [], [], 0, 0, HIN.out⟩
          case round =>
            rename World => wi
            obtain ⟨kk, rfl, hk2, hkx2, HI⟩ := hrel
            by_cases hk : kk < 2
            · have hkz : (kk : Int) < 2 := by omega
              obtain ⟨d0, d1, m0, m1, hI⟩ := HI.out
              have p1 := cell_up hI.be HT.out.2.1
              by_cases hkd : kk < nd
              · have hkdz : (kk : Int) < (nd : Int) := by omega
                obtain ⟨bd, od, rfl, cD⟩ := HT.out.2.2.2.2.1 (by have := HT.out.2.2.2.2.2.2.1; omega)
                have p2 := cell_up hI.be (cD kk (by have := HT.out.2.2.2.2.2.2.1; omega))
                obtain ⟨x, hx⟩ : ∃ x, x = raw[i].f.ds.getD kk [] := ⟨_, rfl⟩
                rw [← hx] at p2
                have hxs := str_size x
                by_cases hx64 : x.length ≤ 64
                · have hx64z : (x.length : Int) ≤ 64 := by omega
                  have p3 := hI.bx.c1
                  have p4 : wi.cell? ⟨wr.heap.size, kk, none⟩ = some (.string ⟨(if kk = 0 then d0 else d1).toArray⟩) := by
                    have := hI.od.cellAt kk (by omega)
                    rw [this]
                    rcases (by omega : kk = 0 ∨ kk = 1) with rfl | rfl <;> rfl
                  have p5 := hI.od.frozenAt kk
                  have hkeep : ∀ X, X = wi.drew ∨ X = wi.drew.setCell ⟨wr.heap.size, kk, none⟩ (.string ⟨x.toArray⟩) → (fun X => X.cell? ⟨wr.heap.size + 1 + 1, 1, none⟩ = some (.slice (some ⟨wr.heap.size, 0, none⟩) 2 2) ∧ X.cell? ⟨b, off + i * 4 + 1, none⟩ = some (.slice (some ⟨bd, od, none⟩) nd cd) ∧ X.cell? ⟨bd, od + kk, none⟩ = some (.string ⟨x.toArray⟩)) X := by
                    have l1 := World.block_lt_of_cell? _ _ (HT.out.2.1)
                    have l2 := World.block_lt_of_cell? _ _ (cD kk (by have := HT.out.2.2.2.2.2.2.1; omega))
                    simp only at l1 l2
                    rintro X (rfl | rfl)
                    · exact ⟨p3, p1, p2⟩
                    · refine ⟨?_, ?_, ?_⟩
                      · rw [World.cell?_setCell_far _ _ _ _ (by show wr.heap.size ≠ wr.heap.size + 1 + 1; omega)]; exact p3
                      · rw [World.cell?_setCell_far _ _ _ _ (by show wr.heap.size ≠ b; omega)]; exact p1
                      · rw [World.cell?_setCell_far _ _ _ _ (by show wr.heap.size ≠ bd; omega)]; exact p2
                  obtain ⟨wj, hwj⟩ : ∃ wj, wj = (wi.setCell ⟨wr.heap.size, kk, none⟩ (.string ⟨x.toArray⟩)).drew := ⟨_, rfl⟩
                  have HI2 : Hid (∃ d0 d1 m0 m1, IN wr (wr.heap.size) (wr.heap.size + 1) (wr.heap.size + 1 + 1) tt wj d0 d1 m0 m1) := by
                    obtain ⟨e0, e1, he⟩ := hI.setD kk hk x hx64
                    rw [hwj]
                    exact ⟨e0, e1, m0, m1, he.up (below_dN (Below.refl _ _) 1)⟩
                  have HWJ : Hid _ := hwj
                  clear hI cD hx hwj HI
                  go_wp2_with fail
                  go_region_held (fun X => X.cell? ⟨wr.heap.size + 1 + 1, 1, none⟩ = some (.slice (some ⟨wr.heap.size, 0, none⟩) 2 2) ∧ X.cell? ⟨b, off + i * 4 + 1, none⟩ = some (.slice (some ⟨bd, od, none⟩) nd cd) ∧ X.cell? ⟨bd, od + kk, none⟩ = some (.string ⟨x.toArray⟩))
                    (exact hkeep _ (by first | exact .inl rfl | exact .inr rfl))
                    (fail)
                  rw [← HWJ.out]
                  clear hkeep p1 p2 p3 p4 p5 hx64z hxs
                  obtain ⟨d0, d1, m0, m1, hI⟩ := HI2.out
                  have q1 := cell_up hI.be HT.out.2.2.1
                  by_cases hkm : kk < nm
                  · have hkmz : (kk : Int) < (nm : Int) := by omega
                    obtain ⟨bm, om, rfl, cM⟩ := HT.out.2.2.2.2.2.1 (by have := HT.out.2.2.2.2.2.2.2; omega)
                    have q2 := cell_up hI.be (cM kk (by have := HT.out.2.2.2.2.2.2.2; omega))
                    obtain ⟨x, hx⟩ : ∃ x, x = raw[i].f.ms.getD kk 0 := ⟨_, rfl⟩
                    rw [← hx] at q2
                    have q3 := hI.bx.c2
                    have q4 : wj.cell? ⟨wr.heap.size + 1, kk, none⟩ = some (.int .i64 (if kk = 0 then m0 else m1)) := by
                      have := hI.om.cellAt kk (by omega)
                      rw [this]
                      rcases (by omega : kk = 0 ∨ kk = 1) with rfl | rfl <;> rfl
                    have q5 := hI.om.frozenAt kk
                    have hkeep : ∀ X, X = wj.drew ∨ X = wj.drew.setCell ⟨wr.heap.size + 1, kk, none⟩ (.int .i64 x) → (fun X => X.cell? ⟨wr.heap.size + 1 + 1, 2, none⟩ = some (.slice (some ⟨wr.heap.size + 1, 0, none⟩) 2 2) ∧ X.cell? ⟨b, off + i * 4 + 2, none⟩ = some (.slice (some ⟨bm, om, none⟩) nm cm) ∧ X.cell? ⟨bm, om + kk, none⟩ = some (.int .i64 x)) X := by
                      have l1 := World.block_lt_of_cell? _ _ (HT.out.2.2.1)
                      have l2 := World.block_lt_of_cell? _ _ (cM kk (by have := HT.out.2.2.2.2.2.2.2; omega))
                      simp only at l1 l2
                      rintro X (rfl | rfl)
                      · exact ⟨q3, q1, q2⟩
                      · refine ⟨?_, ?_, ?_⟩
                        · rw [World.cell?_setCell_far _ _ _ _ (by show wr.heap.size + 1 ≠ wr.heap.size + 1 + 1; omega)]; exact q3
                        · rw [World.cell?_setCell_far _ _ _ _ (by show wr.heap.size + 1 ≠ b; omega)]; exact q1
                        · rw [World.cell?_setCell_far _ _ _ _ (by show wr.heap.size + 1 ≠ bm; omega)]; exact q2
                    have HZ : Hid (∃ d0 d1 m0 m1, IN wr (wr.heap.size) (wr.heap.size + 1) (wr.heap.size + 1 + 1) tt ((wj.setCell ⟨wr.heap.size + 1, kk, none⟩ (.int .i64 x)).drew) d0 d1 m0 m1) := by
                      obtain ⟨e0, e1, he⟩ := hI.setM kk hk x
                      exact ⟨d0, d1, e0, e1, he.up (below_dN (Below.refl _ _) 1)⟩
                    clear hI cM hx
                    go_wp2_with fail
                    go_region_held (fun X => X.cell? ⟨wr.heap.size + 1 + 1, 2, none⟩ = some (.slice (some ⟨wr.heap.size + 1, 0, none⟩) 2 2) ∧ X.cell? ⟨b, off + i * 4 + 2, none⟩ = some (.slice (some ⟨bm, om, none⟩) nm cm) ∧ X.cell? ⟨bm, om + kk, none⟩ = some (.int .i64 x))
                      (exact hkeep _ (by first | exact .inl rfl | exact .inr rfl))
                      (fail)
                    clear hkeep q1 q2 q3 q4 q5
                    go_wp2_with fail
                    go_roundg (2 - (kk + 1))
                    case measure => omega
                    case rel => exact ⟨kk + 1, by go_num, by omega, Nat.le_refl _, HZ⟩
                  · have hkmz : ¬ (kk : Int) < (nm : Int) := by omega
                    have HZ : Hid (∃ d0 d1 m0 m1, IN wr (wr.heap.size) (wr.heap.size + 1) (wr.heap.size + 1 + 1) tt wj d0 d1 m0 m1) := HI2
                    clear hI
                    go_wp2_with fail
                    go_roundg (2 - (kk + 1))
                    case measure => omega
                    case rel => exact ⟨kk + 1, by go_num, by omega, Nat.le_refl _, HZ⟩
                · have hx64z : ¬ (x.length : Int) ≤ 64 := by omega
                  have HI2 : Hid (∃ d0 d1 m0 m1, IN wr (wr.heap.size) (wr.heap.size + 1) (wr.heap.size + 1 + 1) tt wi d0 d1 m0 m1) := HI
                  clear hI cD hx
                  go_upto_region 13 with fail
                  clear p1 p2 hx64z hxs
                  obtain ⟨d0, d1, m0, m1, hI⟩ := HI2.out
                  have q1 := cell_up hI.be HT.out.2.2.1
                  by_cases hkm : kk < nm
                  · have hkmz : (kk : Int) < (nm : Int) := by omega
                    obtain ⟨bm, om, rfl, cM⟩ := HT.out.2.2.2.2.2.1 (by have := HT.out.2.2.2.2.2.2.2; omega)
                    have q2 := cell_up hI.be (cM kk (by have := HT.out.2.2.2.2.2.2.2; omega))
                    obtain ⟨x, hx⟩ : ∃ x, x = raw[i].f.ms.getD kk 0 := ⟨_, rfl⟩
                    rw [← hx] at q2
                    have q3 := hI.bx.c2
                    have q4 : wi.cell? ⟨wr.heap.size + 1, kk, none⟩ = some (.int .i64 (if kk = 0 then m0 else m1)) := by
                      have := hI.om.cellAt kk (by omega)
                      rw [this]
                      rcases (by omega : kk = 0 ∨ kk = 1) with rfl | rfl <;> rfl
                    have q5 := hI.om.frozenAt kk
                    have hkeep : ∀ X, X = wi.drew ∨ X = wi.drew.setCell ⟨wr.heap.size + 1, kk, none⟩ (.int .i64 x) → (fun X => X.cell? ⟨wr.heap.size + 1 + 1, 2, none⟩ = some (.slice (some ⟨wr.heap.size + 1, 0, none⟩) 2 2) ∧ X.cell? ⟨b, off + i * 4 + 2, none⟩ = some (.slice (some ⟨bm, om, none⟩) nm cm) ∧ X.cell? ⟨bm, om + kk, none⟩ = some (.int .i64 x)) X := by
                      have l1 := World.block_lt_of_cell? _ _ (HT.out.2.2.1)
                      have l2 := World.block_lt_of_cell? _ _ (cM kk (by have := HT.out.2.2.2.2.2.2.2; omega))
                      simp only at l1 l2
                      rintro X (rfl | rfl)
                      · exact ⟨q3, q1, q2⟩
                      · refine ⟨?_, ?_, ?_⟩
                        · rw [World.cell?_setCell_far _ _ _ _ (by show wr.heap.size + 1 ≠ wr.heap.size + 1 + 1; omega)]; exact q3
                        · rw [World.cell?_setCell_far _ _ _ _ (by show wr.heap.size + 1 ≠ b; omega)]; exact q1
                        · rw [World.cell?_setCell_far _ _ _ _ (by show wr.heap.size + 1 ≠ bm; omega)]; exact q2
                    have HZ : Hid (∃ d0 d1 m0 m1, IN wr (wr.heap.size) (wr.heap.size + 1) (wr.heap.size + 1 + 1) tt ((wi.setCell ⟨wr.heap.size + 1, kk, none⟩ (.int .i64 x)).drew) d0 d1 m0 m1) := by
                      obtain ⟨e0, e1, he⟩ := hI.setM kk hk x
                      exact ⟨d0, d1, e0, e1, he.up (below_dN (Below.refl _ _) 1)⟩
                    clear hI cM hx
                    go_wp2_with fail
                    go_region_held (fun X => X.cell? ⟨wr.heap.size + 1 + 1, 2, none⟩ = some (.slice (some ⟨wr.heap.size + 1, 0, none⟩) 2 2) ∧ X.cell? ⟨b, off + i * 4 + 2, none⟩ = some (.slice (some ⟨bm, om, none⟩) nm cm) ∧ X.cell? ⟨bm, om + kk, none⟩ = some (.int .i64 x))
                      (exact hkeep _ (by first | exact .inl rfl | exact .inr rfl))
                      (fail)
                    clear hkeep q1 q2 q3 q4 q5
                    go_wp2_with fail
                    go_roundg (2 - (kk + 1))
                    case measure => omega
                    case rel => exact ⟨kk + 1, by go_num, by omega, Nat.le_refl _, HZ⟩
                  · have hkmz : ¬ (kk : Int) < (nm : Int) := by omega
                    have HZ : Hid (∃ d0 d1 m0 m1, IN wr (wr.heap.size) (wr.heap.size + 1) (wr.heap.size + 1 + 1) tt wi d0 d1 m0 m1) := HI2
                    clear hI
                    go_wp2_with fail
                    go_roundg (2 - (kk + 1))
                    case measure => omega
                    case rel => exact ⟨kk + 1, by go_num, by omega, Nat.le_refl _, HZ⟩
              · have hkdz : ¬ (kk : Int) < (nd : Int) := by omega
                have HI2 : Hid (∃ d0 d1 m0 m1, IN wr (wr.heap.size) (wr.heap.size + 1) (wr.heap.size + 1 + 1) tt wi d0 d1 m0 m1) := HI
                clear hI
                go_upto_region 13 with fail
                clear p1
                obtain ⟨d0, d1, m0, m1, hI⟩ := HI2.out
                have q1 := cell_up hI.be HT.out.2.2.1
                by_cases hkm : kk < nm
                · have hkmz : (kk : Int) < (nm : Int) := by omega
                  obtain ⟨bm, om, rfl, cM⟩ := HT.out.2.2.2.2.2.1 (by have := HT.out.2.2.2.2.2.2.2; omega)
                  have q2 := cell_up hI.be (cM kk (by have := HT.out.2.2.2.2.2.2.2; omega))
                  obtain ⟨x, hx⟩ : ∃ x, x = raw[i].f.ms.getD kk 0 := ⟨_, rfl⟩
                  rw [← hx] at q2
                  have q3 := hI.bx.c2
                  have q4 : wi.cell? ⟨wr.heap.size + 1, kk, none⟩ = some (.int .i64 (if kk = 0 then m0 else m1)) := by
                    have := hI.om.cellAt kk (by omega)
                    rw [this]
                    rcases (by omega : kk = 0 ∨ kk = 1) with rfl | rfl <;> rfl
                  have q5 := hI.om.frozenAt kk
                  have hkeep : ∀ X, X = wi.drew ∨ X = wi.drew.setCell ⟨wr.heap.size + 1, kk, none⟩ (.int .i64 x) → (fun X => X.cell? ⟨wr.heap.size + 1 + 1, 2, none⟩ = some (.slice (some ⟨wr.heap.size + 1, 0, none⟩) 2 2) ∧ X.cell? ⟨b, off + i * 4 + 2, none⟩ = some (.slice (some ⟨bm, om, none⟩) nm cm) ∧ X.cell? ⟨bm, om + kk, none⟩ = some (.int .i64 x)) X := by
                    have l1 := World.block_lt_of_cell? _ _ (HT.out.2.2.1)
                    have l2 := World.block_lt_of_cell? _ _ (cM kk (by have := HT.out.2.2.2.2.2.2.2; omega))
                    simp only at l1 l2
                    rintro X (rfl | rfl)
                    · exact ⟨q3, q1, q2⟩
                    · refine ⟨?_, ?_, ?_⟩
                      · rw [World.cell?_setCell_far _ _ _ _ (by show wr.heap.size + 1 ≠ wr.heap.size + 1 + 1; omega)]; exact q3
                      · rw [World.cell?_setCell_far _ _ _ _ (by show wr.heap.size + 1 ≠ b; omega)]; exact q1
                      · rw [World.cell?_setCell_far _ _ _ _ (by show wr.heap.size + 1 ≠ bm; omega)]; exact q2
                  have HZ : Hid (∃ d0 d1 m0 m1, IN wr (wr.heap.size) (wr.heap.size + 1) (wr.heap.size + 1 + 1) tt ((wi.setCell ⟨wr.heap.size + 1, kk, none⟩ (.int .i64 x)).drew) d0 d1 m0 m1) := by
                    obtain ⟨e0, e1, he⟩ := hI.setM kk hk x
                    exact ⟨d0, d1, e0, e1, he.up (below_dN (Below.refl _ _) 1)⟩
                  clear hI cM hx
                  go_wp2_with fail
                  go_region_held (fun X => X.cell? ⟨wr.heap.size + 1 + 1, 2, none⟩ = some (.slice (some ⟨wr.heap.size + 1, 0, none⟩) 2 2) ∧ X.cell? ⟨b, off + i * 4 + 2, none⟩ = some (.slice (some ⟨bm, om, none⟩) nm cm) ∧ X.cell? ⟨bm, om + kk, none⟩ = some (.int .i64 x))
                    (exact hkeep _ (by first | exact .inl rfl | exact .inr rfl))
                    (fail)
                  clear hkeep q1 q2 q3 q4 q5
                  go_wp2_with fail
                  go_roundg (2 - (kk + 1))
                  case measure => omega
                  case rel => exact ⟨kk + 1, by go_num, by omega, Nat.le_refl _, HZ⟩
                · have hkmz : ¬ (kk : Int) < (nm : Int) := by omega
                  have HZ : Hid (∃ d0 d1 m0 m1, IN wr (wr.heap.size) (wr.heap.size + 1) (wr.heap.size + 1 + 1) tt wi d0 d1 m0 m1) := HI2
                  clear hI
                  go_wp2_with fail
                  go_roundg (2 - (kk + 1))
                  case measure => omega
                  case rel => exact ⟨kk + 1, by go_num, by omega, Nat.le_refl _, HZ⟩
            · have hkz : ¬ (kk : Int) < 2 := by omega
              obtain ⟨d0, d1, m0, m1, hI⟩ := HI.out
              obtain ⟨i0, hi0, hy0, hy1, hy2⟩ := info_parts Try.info_many
              obtain ⟨ow, bel, gW⟩ := HOW.out
              have owi := own_below ow hI.be
              have hmax : m + 1 ≤ maxLen := by unfold maxLen; omega
              have hby : ((m + 1) + (m + 1) / 4 + 192) * 64 ≤ 281474976710656 := by omega
              obtain ⟨nq, hnq⟩ : ∃ nq, nq = raw[i].n % 1125899906842624 := ⟨_, rfl⟩
              have hnql : nq < 1125899906842624 := by omega
              have hmod : Int.tmod (raw[i].n : Int) 1125899906842624 = (nq : Int) := by rw [Int.tmod_eq_emod_of_nonneg (by omega)]; omega
              have hFE : FE wi wA.heap.size (⟨⟨tt, .slice (some ⟨wr.heap.size, 0, none⟩) 2 2, .slice (some ⟨wr.heap.size + 1, 0, none⟩) 2 2, [d0, d1], [m0, m1]⟩, nq⟩ : En) := by
                exact ⟨own_mono hI.od bel.size, own_mono hI.om bel.size, ⟨fun t ht => by
                  rcases List.mem_cons.1 ht with rfl | ht
                  · exact hI.l0
                  · rcases List.mem_cons.1 ht with rfl | ht
                    · exact hI.l1
                    · cases ht⟩, hnql⟩
              have hone : ∀ u ∈ ev [(⟨⟨tt, .slice (some ⟨wr.heap.size, 0, none⟩) 2 2, .slice (some ⟨wr.heap.size + 1, 0, none⟩) 2 2, [d0, d1], [m0, m1]⟩, nq⟩ : En)], u.oneCell' = true := by
                intro u hu
                simp only [ev, En.cells, List.flatMap_cons, List.flatMap_nil, List.append_nil, List.mem_cons, List.not_mem_nil, or_false] at hu
                rcases hu with rfl | rfl | rfl | rfl <;> rfl
              have hrd := (one_rds wi (⟨⟨tt, .slice (some ⟨wr.heap.size, 0, none⟩) 2 2, .slice (some ⟨wr.heap.size + 1, 0, none⟩) 2 2, [d0, d1], [m0, m1]⟩, nq⟩ : En) _ rfl).below (below_dN (Below.refl _ _) 1)
              obtain ⟨a8, n8, c8, rfl⟩ := own_sl ow
              have hle := Nat.le_trans bel.size hI.be.size
              have lt3 := World.block_lt_of_cell? _ _ HT.out.2.2.2.1
              simp only at lt3
              have q1 := hI.bx.c0
              have q2 := hI.bx.c1
              have q3 := hI.bx.c2
              have q4 := cell_up hI.be HT.out.2.2.2.1
              have hown1 : ((wi.alloc (.cells #[.int .i64 tt, .slice (some ⟨wr.heap.size, 0, none⟩) 2 2, .slice (some ⟨wr.heap.size + 1, 0, none⟩) 2 2, .int .u64 nq] 49)).drew).ownsRow wA.heap.size 49 4 (.slice a8 n8 c8) m (ev out) := own_below (owi.alloc _) (below_dN (Below.refl _ _) 1)
              have hS : ∀ X : World, (∀ g, g < wi.heap.size → (∀ k0, (Value.slice a8 n8 c8).ownBlock = some k0 → g ≠ k0) → X.heap[g]? = wi.heap[g]?) → (fun X : World => X.cell? ⟨wr.heap.size + 1 + 1, 0, none⟩ = some (.int .i64 tt) ∧ X.cell? ⟨wr.heap.size + 1 + 1, 1, none⟩ = some (.slice (some ⟨wr.heap.size, 0, none⟩) 2 2) ∧ X.cell? ⟨wr.heap.size + 1 + 1, 2, none⟩ = some (.slice (some ⟨wr.heap.size + 1, 0, none⟩) 2 2) ∧ X.cell? ⟨b, off + i * 4 + 3, none⟩ = some (.int .u64 raw[i].n)) X := fun X hX => by
                have hB := hX (wr.heap.size + 1 + 1) hI.bx.lt (fun k0 hk0 e => by have := (World.ownsRow.lt ow k0 hk0).2; omega)
                have hb := hX b (Nat.lt_of_lt_of_le lt3 hI.be.size) (fun k0 hk0 e => by have := (World.ownsRow.lt ow k0 hk0).1; have := HBA.out; omega)
                exact ⟨by rw [World.cell?_of_block (w := wi) hB]; exact q1, by rw [World.cell?_of_block (w := wi) hB]; exact q2, by rw [World.cell?_of_block (w := wi) hB]; exact q3, by rw [World.cell?_of_block (w := wi) hb]; exact q4⟩
              have HZ : Hid _ := And.intro hFE (And.intro hI.be (And.intro ow bel))
              have HHle : Hid (wA.heap.size ≤ ((wi.alloc (.cells #[.int .i64 tt, .slice (some ⟨wr.heap.size, 0, none⟩) 2 2, .slice (some ⟨wr.heap.size + 1, 0, none⟩) 2 2, .int .u64 nq] 49)).drew).heap.size) := Nat.le_trans hle ((Grows.alloc _ _).below.size)
              clear hI hFE hle ow bel gW owi hnq hnql lt3
              go_wp2_with fail
              go_region_held_law (fun X => X.cell? ⟨wr.heap.size + 1 + 1, 0, none⟩ = some (.int .i64 tt) ∧ X.cell? ⟨wr.heap.size + 1 + 1, 1, none⟩ = some (.slice (some ⟨wr.heap.size, 0, none⟩) 2 2) ∧ X.cell? ⟨wr.heap.size + 1 + 1, 2, none⟩ = some (.slice (some ⟨wr.heap.size + 1, 0, none⟩) 2 2) ∧ X.cell? ⟨b, off + i * 4 + 3, none⟩ = some (.int .u64 raw[i].n))
                (first
                  | exact hS _ (by assumption)
                  | exact hS _ (fun g hg _ => rfl)
                  | exact hS _ (fun g hg _ => alloc_block _ _ hg))
                (first
                  | (refine step_appK rfl (.tmp 103) (.tmp 112) 36 rfl wA.heap.size 49 i0 (.agg #[.int .i64 0, .slice none 0 0, .slice none 0 0, .int .u64 0]) 4 64 Try.underlying36 hi0 hy0 hy1 hy2 rfl (by decide) (.slice a8 n8 c8) m (ev out) rfl hown1 _ 1 1 (ev [(⟨⟨tt, .slice (some ⟨wr.heap.size, 0, none⟩) 2 2, .slice (some ⟨wr.heap.size + 1, 0, none⟩) 2 2, [d0, d1], [m0, m1]⟩, nq⟩ : En)]) rfl hrd hone hmax hby HHle.out ?_; intro v9 w9 hown9 hgrow9; have B9 : ∀ g, g < wi.heap.size → (∀ k0, (Value.slice a8 n8 c8).ownBlock = some k0 → g ≠ k0) → w9.heap[g]? = wi.heap[g]? := fun g hg hk => (hgrow9.block g (Nat.lt_of_lt_of_le hg ((Grows.alloc _ _).below.size)) (fun e => hk g e.symm rfl)).trans (alloc_block _ _ hg)))
              all_goals
                have HO9 : Hid (w9.ownsRow wA.heap.size 49 4 v9 (m + 1) (ev (out ++ [(⟨⟨tt, .slice (some ⟨wr.heap.size, 0, none⟩) 2 2, .slice (some ⟨wr.heap.size + 1, 0, none⟩) 2 2, [d0, d1], [m0, m1]⟩, nq⟩ : En)])) ∧ (m + 1 = (out ++ [(⟨⟨tt, .slice (some ⟨wr.heap.size, 0, none⟩) 2 2, .slice (some ⟨wr.heap.size + 1, 0, none⟩) 2 2, [d0, d1], [m0, m1]⟩, nq⟩ : En)]).length ∧ ∀ e ∈ out ++ [(⟨⟨tt, .slice (some ⟨wr.heap.size, 0, none⟩) 2 2, .slice (some ⟨wr.heap.size + 1, 0, none⟩) 2 2, [d0, d1], [m0, m1]⟩, nq⟩ : En)], FE w9 wA.heap.size e) ∧ Below wA.heap.size wA w9) := by
                  obtain ⟨hFE, hbe, ow, bel⟩ := HZ.out
                  have hdw : Below wi.heap.size wi ((wi.alloc (.cells #[.int .i64 tt, .slice (some ⟨wr.heap.size, 0, none⟩) 2 2, .slice (some ⟨wr.heap.size + 1, 0, none⟩) 2 2, .int .u64 nq] 49)).drew) := (Grows.alloc _ _).below.trans (below_dN (Below.refl _ _) 1)
                  refine ⟨by rw [ev_app]; exact hown9, ⟨by rw [List.length_append, ← HX.out.1]; rfl, fun e he => ?_⟩, ?_⟩
                  · rcases List.mem_append.1 he with he | he
                    · exact (((HX.out.2 e he).up hbe).up hdw).grown hown1 hgrow9
                    · rw [List.mem_singleton.1 he]
                      exact (hFE.up hdw).grown hown1 hgrow9
                  · have b1 := bel.trans (hbe.mono bel.size)
                    have b2 := b1.trans (hdw.mono b1.size)
                    exact b2.grown hgrow9 b2.size (fun j hj => (World.ownsRow.lt hown1 j hj).1)
                obtain ⟨a10, n10, c10, hv10⟩ := own_sl hown9
                subst hv10
                clear hown9 hgrow9 B9 hS hrd hone hown1 q1 q2 q3 q4
                go_wp2_with fail
                go_roundg (n - (i + 1))
                case measure => omega
                case rel => exact ⟨i + 1, m + 1, _, by go_num, by omega, by omega, Nat.le_refl _, by omega, HO9.out.1, HO9.out.2.1, HO9.out.2.2⟩
        · have hl4z : ¬ (i : Int) < 40 := by omega
          obtain ⟨x1, x2⟩ := HX.out
          obtain ⟨s0, s1, z40, z41, z4f, z50, z51, z5f, z70, z71⟩ := HS.out
          have HF : Hid _ := And.intro own (And.intro x1 (And.intro x2 bel))
          have y0 := cell_up bel s0
          have y1 := cell_up bel s1
          have y2 := cell_up bel z70
          have y3 := cell_up bel z71
          have y4 := cell_up bel z40
          have y5 := cell_up bel z41
          have y6 := cell_up bel z50
          have y7 := cell_up bel z51
          have y8 := fun z => (bel.frozen (p := ⟨w.heap.size + 1, z, none⟩) HA.out.2.2.1).trans (z4f z)
          have y9 := fun z => (bel.frozen (p := ⟨w.heap.size + 1 + 1, z, none⟩) HA.out.2.2.2).trans (z5f z)
          obtain ⟨a8, n8, c8, rfl⟩ := own_sl own
          clear own x1 x2 HX bel s0 s1 z40 z41 z4f z50 z51 z5f z70 z71
          go_wp2_with fail
          go_region
          obtain ⟨Y, hY⟩ : ∃ Y, Y = ((((wr.setCell ⟨w.heap.size + 1, 0, none⟩ (.int .i64 2)).setCell ⟨w.heap.size + 1, 1, none⟩ (.int .i64 2)).setCell ⟨w.heap.size + 1 + 1, 0, none⟩ (.int .i64 r)).setCell ⟨w.heap.size + 1 + 1, 1, none⟩ (.int .i64 q)).drew := ⟨_, rfl⟩
          rw [← hY]
          have v0 : Y.cell? ⟨w.heap.size + 1, 0, none⟩ = some (.int .i64 2) := by
            rw [hY]
            show World.cell? (World.setCell _ _ _) _ = _
            rw [World.cell?_setCell_far _ _ _ _ (by simp), World.cell?_setCell_far _ _ _ _ (by simp), World.cell?_setCell_other _ _ _ _ (by simp)]
            exact World.cell?_setCell_same _ _ _ y4
          have v1 : Y.cell? ⟨w.heap.size + 1, 1, none⟩ = some (.int .i64 2) := by
            rw [hY]
            show World.cell? (World.setCell _ _ _) _ = _
            rw [World.cell?_setCell_far _ _ _ _ (by simp), World.cell?_setCell_far _ _ _ _ (by simp)]
            exact World.cell?_setCell_same _ _ _ (by rw [World.cell?_setCell_other _ _ _ _ (by simp)]; exact y5)
          have v2 : Y.cell? ⟨w.heap.size + 1 + 1, 0, none⟩ = some (.int .i64 r) := by
            rw [hY]
            show World.cell? (World.setCell _ _ _) _ = _
            rw [World.cell?_setCell_other _ _ _ _ (by simp)]
            exact World.cell?_setCell_same _ _ _ (by rw [World.cell?_setCell_far _ _ _ _ (by simp), World.cell?_setCell_far _ _ _ _ (by simp)]; exact y6)
          have v3 : Y.cell? ⟨w.heap.size + 1 + 1, 1, none⟩ = some (.int .i64 q) := by
            rw [hY]
            show World.cell? (World.setCell _ _ _) _ = _
            exact World.cell?_setCell_same _ _ _ (by rw [World.cell?_setCell_other _ _ _ _ (by simp), World.cell?_setCell_far _ _ _ _ (by simp), World.cell?_setCell_far _ _ _ _ (by simp)]; exact y7)
          have HY : Hid _ := hY
          clear y0 y1 y2 y3 y4 y5 y6 y7 y8 y9 hY
          go_wp2_with fail
          refine bodyPost_ret (by simp [results, Try.results15, go_sem, v0, v1, v2, v3]; try rfl) rfl ?_
          obtain ⟨own, x1, x2, bel⟩ := HF.out
          obtain ⟨bA, hrq, hl1, hl2⟩ := HA.out
          have ownY : Y.ownsRow wA.heap.size 49 4 (.slice a8 n8 c8) m (ev out) := by
            rw [HY.out]
            exact ownsRow_setCell_below (ownsRow_setCell_below (ownsRow_setCell_below (ownsRow_setCell_below own (a := ⟨w.heap.size + 1, 0, none⟩) hl1 _) (a := ⟨w.heap.size + 1, 1, none⟩) hl1 _) (a := ⟨w.heap.size + 1 + 1, 0, none⟩) hl2 _) (a := ⟨w.heap.size + 1 + 1, 1, none⟩) hl2 _
          have feY : ∀ e ∈ out, FE Y wA.heap.size e := fun e he => by
            rw [HY.out]
            exact ((((x2 e he).off hl1 _).off hl1 _).off hl2 _).off hl2 _ |>.up (below_dN (Below.refl _ _) 1)
          have bY : Below w.heap.size w Y := by
            rw [HY.out]
            have b0 := bA.trans (bel.mono bA.size)
            exact below_dN ((((b0.setCell (p := ⟨w.heap.size + 1, 0, none⟩) (by show w.heap.size ≤ w.heap.size + 1; omega) _).setCell (p := ⟨w.heap.size + 1, 1, none⟩) (by show w.heap.size ≤ w.heap.size + 1; omega) _).setCell (p := ⟨w.heap.size + 1 + 1, 0, none⟩) (by show w.heap.size ≤ w.heap.size + 1 + 1; omega) _).setCell (p := ⟨w.heap.size + 1 + 1, 1, none⟩) (by show w.heap.size ≤ w.heap.size + 1 + 1; omega) _) 1
          exact ⟨r, q, .slice a8 n8 c8, out, rfl, hrq, ⟨by rw [← x1]; exact RdsK.of_own ownY, fun e he => (feY e he).fok⟩, (fun e he => (feY e he).mono bA.size), by omega, bY, (New.of ownY).mono bA.size⟩
      · have hltz : ¬ (i : Int) < (n : Int) := by omega
        obtain ⟨x1, x2⟩ := HX.out
        obtain ⟨s0, s1, z40, z41, z4f, z50, z51, z5f, z70, z71⟩ := HS.out
        have HF : Hid _ := And.intro own (And.intro x1 (And.intro x2 bel))
        have y0 := cell_up bel s0
        have y1 := cell_up bel s1
        have y2 := cell_up bel z70
        have y3 := cell_up bel z71
        have y4 := cell_up bel z40
        have y5 := cell_up bel z41
        have y6 := cell_up bel z50
        have y7 := cell_up bel z51
        have y8 := fun z => (bel.frozen (p := ⟨w.heap.size + 1, z, none⟩) HA.out.2.2.1).trans (z4f z)
        have y9 := fun z => (bel.frozen (p := ⟨w.heap.size + 1 + 1, z, none⟩) HA.out.2.2.2).trans (z5f z)
        obtain ⟨a8, n8, c8, rfl⟩ := own_sl own
        clear own x1 x2 HX bel s0 s1 z40 z41 z4f z50 z51 z5f z70 z71
        go_wp2_with fail
        go_region
        obtain ⟨Y, hY⟩ : ∃ Y, Y = ((((wr.setCell ⟨w.heap.size + 1, 0, none⟩ (.int .i64 2)).setCell ⟨w.heap.size + 1, 1, none⟩ (.int .i64 2)).setCell ⟨w.heap.size + 1 + 1, 0, none⟩ (.int .i64 r)).setCell ⟨w.heap.size + 1 + 1, 1, none⟩ (.int .i64 q)).drew := ⟨_, rfl⟩
        rw [← hY]
        have v0 : Y.cell? ⟨w.heap.size + 1, 0, none⟩ = some (.int .i64 2) := by
          rw [hY]
          show World.cell? (World.setCell _ _ _) _ = _
          rw [World.cell?_setCell_far _ _ _ _ (by simp), World.cell?_setCell_far _ _ _ _ (by simp), World.cell?_setCell_other _ _ _ _ (by simp)]
          exact World.cell?_setCell_same _ _ _ y4
        have v1 : Y.cell? ⟨w.heap.size + 1, 1, none⟩ = some (.int .i64 2) := by
          rw [hY]
          show World.cell? (World.setCell _ _ _) _ = _
          rw [World.cell?_setCell_far _ _ _ _ (by simp), World.cell?_setCell_far _ _ _ _ (by simp)]
          exact World.cell?_setCell_same _ _ _ (by rw [World.cell?_setCell_other _ _ _ _ (by simp)]; exact y5)
        have v2 : Y.cell? ⟨w.heap.size + 1 + 1, 0, none⟩ = some (.int .i64 r) := by
          rw [hY]
          show World.cell? (World.setCell _ _ _) _ = _
          rw [World.cell?_setCell_other _ _ _ _ (by simp)]
          exact World.cell?_setCell_same _ _ _ (by rw [World.cell?_setCell_far _ _ _ _ (by simp), World.cell?_setCell_far _ _ _ _ (by simp)]; exact y6)
        have v3 : Y.cell? ⟨w.heap.size + 1 + 1, 1, none⟩ = some (.int .i64 q) := by
          rw [hY]
          show World.cell? (World.setCell _ _ _) _ = _
          exact World.cell?_setCell_same _ _ _ (by rw [World.cell?_setCell_other _ _ _ _ (by simp), World.cell?_setCell_far _ _ _ _ (by simp), World.cell?_setCell_far _ _ _ _ (by simp)]; exact y7)
        have HY : Hid _ := hY
        clear y0 y1 y2 y3 y4 y5 y6 y7 y8 y9 hY
        go_wp2_with fail
        refine bodyPost_ret (by simp [results, Try.results15, go_sem, v0, v1, v2, v3]; try rfl) rfl ?_
        obtain ⟨own, x1, x2, bel⟩ := HF.out
        obtain ⟨bA, hrq, hl1, hl2⟩ := HA.out
        have ownY : Y.ownsRow wA.heap.size 49 4 (.slice a8 n8 c8) m (ev out) := by
          rw [HY.out]
          exact ownsRow_setCell_below (ownsRow_setCell_below (ownsRow_setCell_below (ownsRow_setCell_below own (a := ⟨w.heap.size + 1, 0, none⟩) hl1 _) (a := ⟨w.heap.size + 1, 1, none⟩) hl1 _) (a := ⟨w.heap.size + 1 + 1, 0, none⟩) hl2 _) (a := ⟨w.heap.size + 1 + 1, 1, none⟩) hl2 _
        have feY : ∀ e ∈ out, FE Y wA.heap.size e := fun e he => by
          rw [HY.out]
          exact ((((x2 e he).off hl1 _).off hl1 _).off hl2 _).off hl2 _ |>.up (below_dN (Below.refl _ _) 1)
        have bY : Below w.heap.size w Y := by
          rw [HY.out]
          have b0 := bA.trans (bel.mono bA.size)
          exact below_dN ((((b0.setCell (p := ⟨w.heap.size + 1, 0, none⟩) (by show w.heap.size ≤ w.heap.size + 1; omega) _).setCell (p := ⟨w.heap.size + 1, 1, none⟩) (by show w.heap.size ≤ w.heap.size + 1; omega) _).setCell (p := ⟨w.heap.size + 1 + 1, 0, none⟩) (by show w.heap.size ≤ w.heap.size + 1 + 1; omega) _).setCell (p := ⟨w.heap.size + 1 + 1, 1, none⟩) (by show w.heap.size ≤ w.heap.size + 1 + 1; omega) _) 1
        exact ⟨r, q, .slice a8 n8 c8, out, rfl, hrq, ⟨by rw [← x1]; exact RdsK.of_own ownY, fun e he => (feY e he).fok⟩, (fun e he => (feY e he).mono bA.size), by omega, bY, (New.of ownY).mono bA.size⟩
theorem right_any (w : World) (k c : Int) (v : Value) (raw : List En) (h : RdsM w v raw) (hk : In64 k) (hc : In64 c) :
    Calls Try.prog 15 #[.agg #[.int .i64 k, .int .i64 c], v] w (Rights w) :=
  (right_new w k c v raw h hk hc).mono fun _ _ ⟨k, c, v, l, h1, h2, h3, h4, h5, h6, _⟩ => ⟨k, c, v, l, h1, h2, h3, h4, h5, h6⟩
end Go.Proofs.Ytkoihniggoelnaa
