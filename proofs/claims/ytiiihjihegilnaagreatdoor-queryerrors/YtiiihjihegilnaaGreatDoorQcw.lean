/- The walk of QueryChecks. -/
import Derived.Test.YtiiihjihegilnaaGreatDoorQet
import Derived.Test.YtiiihjihegilnaaGreatDoorQcd
namespace Go.Proofs.YtiiihjihegilnaaGreatDoor
open Go.RowKit Go.Sort

theorem idxL_range {α : Type} (p : α → Bool) (l : List α) : idxL p l = -1 ∨ ∃ i : Nat, i < l.length ∧ idxL p l = i := by
  by_cases h : ∃ i : Nat, ∃ hi : i < l.length, p l[i] = true ∧ ∀ j (hj : j < i), p (l[j]'(by omega)) = false
  · obtain ⟨i, hi, h1, h2⟩ := h
    exact .inr ⟨i, hi, idxL_hit hi h2 h1⟩
  · refine .inl (idxL_none ?_)
    intro j
    induction j using Nat.strongRecOn with
    | _ j ih =>
      intro hj
      cases hp : p l[j] with
      | false => rfl
      | true => exact absurd ⟨j, hj, hp, fun k hk => ih k hk (by omega)⟩ h
theorem look_small {D M : Int} {q : Qm} {k : Nat} (hk : k < 8) (h : look D M q k ≠ -1) : ∃ i : Nat, i < 100 ∧ look D M q k = i := by
  have hu : ∀ b, unl b ≠ -1 → ∃ i : Nat, i < 100 ∧ unl b = i := fun b hb => by
    cases b with
    | false => exact ⟨0, by omega, rfl⟩
    | true => exact absurd rfl hb
  rcases (by omega : k = 0 ∨ k = 1 ∨ k = 2 ∨ k = 3 ∨ k = 4 ∨ k = 5 ∨ k = 6 ∨ k = 7) with rfl | rfl | rfl | rfl | rfl | rfl | rfl | rfl
  · exact hu _ h
  · exact hu _ h
  · exact hu _ h
  · exact hu _ h
  · change wset D q.ss ≠ -1 at h
    change ∃ i : Nat, i < 100 ∧ wset D q.ss = i
    unfold wset at h ⊢
    by_cases hc : q.ss.length < 1 ∨ 64 < q.ss.length
    · rw [if_pos hc]; exact ⟨0, by omega, rfl⟩
    · rw [if_neg hc] at h ⊢
      rcases idxL_range (setP D) q.ss with h1 | ⟨i, hi, h1⟩
      · exact absurd h1 h
      · exact ⟨i, by omega, h1⟩
  · change wagg D M q.ag ≠ -1 at h
    change ∃ i : Nat, i < 100 ∧ wagg D M q.ag = i
    unfold wagg at h ⊢
    by_cases hc : 16 < q.ag.length
    · rw [if_pos hc]; exact ⟨0, by omega, rfl⟩
    · rw [if_neg hc] at h ⊢
      rcases idxL_range (aggP D M) q.ag with h1 | ⟨i, hi, h1⟩
      · exact absurd h1 h
      · exact ⟨i, by omega, h1⟩
  · exact hu _ h
  · exact hu _ h
theorem ba_nil : (⟨#[]⟩ : ByteArray).toList = [] := by decide +kernel
theorem ba_ne {t : ByteArray} (h : t ≠ ⟨#[]⟩) : ¬ t.toList = [] := fun e => h (by
  rw [Lib.toList_data] at e
  have h3 : t.data = #[] := Array.toList_eq_nil_iff.1 e
  cases t
  simp only at h3
  rw [h3])
theorem nam_ok : ∀ k, k < 8 → (nam k).size ≤ 100 ∧ 0 < (nam k).size := by decide +kernel
set_option maxRecDepth 100000 in
set_option maxHeartbeats 8000000 in
theorem checks_walk (w : World) (D M : Int) (q : Qm) (h : q.Ok w) (hD : D ≤ 9223372036854775807) (hg : Hnd w) :
    Calls Tryz.prog 3 #[.agg #[.int .i64 D, .int .i64 M], .agg #[.int .i64 q.F, .int .i64 q.T, .int .i64 q.t.k, .int .i64 q.t.d, q.t.tv, .int .i64 q.t.lo, .int .i64 q.t.hi, q.t.kv, .int .i64 q.g, q.sv, q.av, .int .i64 q.G, .int .i64 q.R]] w fun e w' => e = .returned (.bool true) ∧ Below w.heap.size w w' := by
  obtain ⟨W, hW⟩ : ∃ W, W = (w.alloc (.cells #[.int .i64 D, .int .i64 M] 23)).alloc (.cells q.cells 33) := ⟨_, rfl⟩
  have gW : Below w.heap.size w W := by rw [hW]; exact ((Grows.alloc _ _).trans (Grows.alloc _ _)).below
  have hB : QB W w.heap.size (w.heap.size + 1) D M q := by
    refine ⟨?_, fun c u hu => ?_, h.up gW⟩
    · rw [hW]; exact ⟨cell_grow (by simp) _, cell_grow (by simp) _⟩
    · rw [hW, World.cell?_alloc_at _ _ _ _ (by simp)]; exact hu
  obtain ⟨⟨a1, n1, c1, e1⟩, ⟨a2, n2, c2, e2⟩, ⟨a3, n3, c3, e3⟩, ⟨a4, n4, c4, e4⟩⟩ := h.sls
  have hcs : q.cells = #[.int .i64 q.F, .int .i64 q.T, .int .i64 q.t.k, .int .i64 q.t.d, q.t.tv, .int .i64 q.t.lo, .int .i64 q.t.hi, q.t.kv, .int .i64 q.g, q.sv, q.av, .int .i64 q.G, .int .i64 q.R] := rfl
  rw [e1, e2, e3, e4] at hcs
  rw [hcs] at hW
  have HE : Hid (q.t.tv = .slice a1 n1 c1 ∧ q.t.kv = .slice a2 n2 c2 ∧ q.sv = .slice a3 n3 c3 ∧ q.av = .slice a4 n4 c4) := ⟨e1, e2, e3, e4⟩
  have HW : Hid _ := hW
  have HQ : Hid (QB W w.heap.size (w.heap.size + 1) D M q) := hB
  have HGW : Hid (Below w.heap.size w W) := gW
  have HH : Hid (Hnd w) := hg
  rw [e1, e2, e3, e4]
  clear h hB gW hcs hW e1 e2 e3 e4 hg
  go_enter Tryz.func3, Tryz.ntmps3
  go_wp2_with fail
  rw [← HW.out]
  refine (awake_any W (HH.out.up HGW.out)).mono ?_
  rintro e w1 ⟨rfl, b1⟩
  have HQ1 : Hid (QB w1 w.heap.size (w.heap.size + 1) D M q) := HQ.out.up b1
  have HG1 : Hid (Below w.heap.size w w1) := HGW.out.trans (b1.mono HGW.out.size)
  clear b1
  have g0 := HQ1.out.s.1
  have g1 := HQ1.out.s.2
  have f0 : w1.cell? ⟨w.heap.size + 1, 0, none⟩ = some (.int .i64 q.F) := HQ1.out.c 0 _ rfl
  have f1 : w1.cell? ⟨w.heap.size + 1, 1, none⟩ = some (.int .i64 q.T) := HQ1.out.c 1 _ rfl
  have f2 : w1.cell? ⟨w.heap.size + 1, 2, none⟩ = some (.int .i64 q.t.k) := HQ1.out.c 2 _ rfl
  have f3 : w1.cell? ⟨w.heap.size + 1, 3, none⟩ = some (.int .i64 q.t.d) := HQ1.out.c 3 _ rfl
  have f4 : w1.cell? ⟨w.heap.size + 1, 4, none⟩ = some (.slice a1 n1 c1) := by rw [← HE.out.1]; exact HQ1.out.c 4 _ rfl
  have f5 : w1.cell? ⟨w.heap.size + 1, 5, none⟩ = some (.int .i64 q.t.lo) := HQ1.out.c 5 _ rfl
  have f6 : w1.cell? ⟨w.heap.size + 1, 6, none⟩ = some (.int .i64 q.t.hi) := HQ1.out.c 6 _ rfl
  have f7 : w1.cell? ⟨w.heap.size + 1, 7, none⟩ = some (.slice a2 n2 c2) := by rw [← HE.out.2.1]; exact HQ1.out.c 7 _ rfl
  have f8 : w1.cell? ⟨w.heap.size + 1, 8, none⟩ = some (.int .i64 q.g) := HQ1.out.c 8 _ rfl
  have f9 : w1.cell? ⟨w.heap.size + 1, 9, none⟩ = some (.slice a3 n3 c3) := by rw [← HE.out.2.2.1]; exact HQ1.out.c 9 _ rfl
  have f10 : w1.cell? ⟨w.heap.size + 1, 10, none⟩ = some (.slice a4 n4 c4) := by rw [← HE.out.2.2.2]; exact HQ1.out.c 10 _ rfl
  have f11 : w1.cell? ⟨w.heap.size + 1, 11, none⟩ = some (.int .i64 q.G) := HQ1.out.c 11 _ rfl
  have f12 : w1.cell? ⟨w.heap.size + 1, 12, none⟩ = some (.int .i64 q.R) := HQ1.out.c 12 _ rfl
  have kC := check_any w1 D M q HQ1.out.ok hD
  rw [HE.out.1, HE.out.2.1, HE.out.2.2.1, HE.out.2.2.2] at kC
  go_wp2_with fail
  refine kC.mono ?_
  rintro e w2 ⟨ht, b2⟩
  have HQ2 : Hid (QB w2 w.heap.size (w.heap.size + 1) D M q) := HQ1.out.up b2
  have HG2 : Hid (Below w.heap.size w w2) := HG1.out.trans (b2.mono HG1.out.size)
  clear b2 kC g0 g1 f0 f1 f2 f3 f4 f5 f6 f7 f8 f9 f10 f11 f12
  rcases ht with ⟨hall, rfl⟩ | ⟨k, B, hk, hlow, hne, rfl, hBge, q0, q1⟩
  · have HALL : Hid _ := hall
    clear hall
    have g0 := HQ2.out.s.1
    have g1 := HQ2.out.s.2
    have f0 : w2.cell? ⟨w.heap.size + 1, 0, none⟩ = some (.int .i64 q.F) := HQ2.out.c 0 _ rfl
    have f1 : w2.cell? ⟨w.heap.size + 1, 1, none⟩ = some (.int .i64 q.T) := HQ2.out.c 1 _ rfl
    have f2 : w2.cell? ⟨w.heap.size + 1, 2, none⟩ = some (.int .i64 q.t.k) := HQ2.out.c 2 _ rfl
    have f3 : w2.cell? ⟨w.heap.size + 1, 3, none⟩ = some (.int .i64 q.t.d) := HQ2.out.c 3 _ rfl
    have f4 : w2.cell? ⟨w.heap.size + 1, 4, none⟩ = some (.slice a1 n1 c1) := by rw [← HE.out.1]; exact HQ2.out.c 4 _ rfl
    have f5 : w2.cell? ⟨w.heap.size + 1, 5, none⟩ = some (.int .i64 q.t.lo) := HQ2.out.c 5 _ rfl
    have f6 : w2.cell? ⟨w.heap.size + 1, 6, none⟩ = some (.int .i64 q.t.hi) := HQ2.out.c 6 _ rfl
    have f7 : w2.cell? ⟨w.heap.size + 1, 7, none⟩ = some (.slice a2 n2 c2) := by rw [← HE.out.2.1]; exact HQ2.out.c 7 _ rfl
    have f8 : w2.cell? ⟨w.heap.size + 1, 8, none⟩ = some (.int .i64 q.g) := HQ2.out.c 8 _ rfl
    have f9 : w2.cell? ⟨w.heap.size + 1, 9, none⟩ = some (.slice a3 n3 c3) := by rw [← HE.out.2.2.1]; exact HQ2.out.c 9 _ rfl
    have f10 : w2.cell? ⟨w.heap.size + 1, 10, none⟩ = some (.slice a4 n4 c4) := by rw [← HE.out.2.2.2]; exact HQ2.out.c 10 _ rfl
    have f11 : w2.cell? ⟨w.heap.size + 1, 11, none⟩ = some (.int .i64 q.G) := HQ2.out.c 11 _ rfl
    have f12 : w2.cell? ⟨w.heap.size + 1, 12, none⟩ = some (.int .i64 q.R) := HQ2.out.c 12 _ rfl
    have kR := refchk_any w2 D M q HQ2.out.ok
    rw [HE.out.1, HE.out.2.1, HE.out.2.2.1, HE.out.2.2.2] at kR
    go_wp2_with fail
    refine kR.mono ?_
    rintro e w3 ⟨hr, b3⟩
    have HQ3 : Hid (QB w3 w.heap.size (w.heap.size + 1) D M q) := HQ2.out.up b3
    have HG3 : Hid (Below w.heap.size w w3) := HG2.out.trans (b3.mono HG2.out.size)
    clear kR g0 g1 f0 f1 f2 f3 f4 f5 f6 f7 f8 f9 f10 f11 f12
    rcases hr with ⟨-, rfl⟩ | ⟨k2, hk2, -, hne2, -⟩
    · have kN := code_nil w3
      go_wp2_with fail
      refine kN.mono ?_
      rintro e w4 ⟨rfl, rfl⟩
      go_wp2_with fail
      go_ret
      exact ⟨rfl, HG3.out⟩
    · exact absurd (HALL.out k2 hk2) hne2
  · have HK : Hid (k < 8 ∧ (∀ j, j < k → look D M q j = -1) ∧ look D M q k ≠ -1) := ⟨hk, hlow, hne⟩
    obtain ⟨i, hi, hli⟩ := look_small hk hne
    have HB : Hid (w2.cell? ⟨B, 0, none⟩ = some (.string (nam k)) ∧ w2.cell? ⟨B, 1, none⟩ = some (.int .i64 i) ∧ B < w2.heap.size) := ⟨q0, by rw [← hli]; exact q1, World.block_lt_of_cell? _ _ q0⟩
    have HLI : Hid (look D M q k = i) := hli
    clear q0 q1 hli hk hlow hne hBge
    obtain ⟨HB0, HB1, HB2⟩ : Hid (w2.cell? ⟨B, 0, none⟩ = some (.string (nam k))) ∧ Hid (w2.cell? ⟨B, 1, none⟩ = some (.int .i64 i)) ∧ Hid (B < w2.heap.size) := HB.out
    have g0 := HQ2.out.s.1
    have g1 := HQ2.out.s.2
    have f0 : w2.cell? ⟨w.heap.size + 1, 0, none⟩ = some (.int .i64 q.F) := HQ2.out.c 0 _ rfl
    have f1 : w2.cell? ⟨w.heap.size + 1, 1, none⟩ = some (.int .i64 q.T) := HQ2.out.c 1 _ rfl
    have f2 : w2.cell? ⟨w.heap.size + 1, 2, none⟩ = some (.int .i64 q.t.k) := HQ2.out.c 2 _ rfl
    have f3 : w2.cell? ⟨w.heap.size + 1, 3, none⟩ = some (.int .i64 q.t.d) := HQ2.out.c 3 _ rfl
    have f4 : w2.cell? ⟨w.heap.size + 1, 4, none⟩ = some (.slice a1 n1 c1) := by rw [← HE.out.1]; exact HQ2.out.c 4 _ rfl
    have f5 : w2.cell? ⟨w.heap.size + 1, 5, none⟩ = some (.int .i64 q.t.lo) := HQ2.out.c 5 _ rfl
    have f6 : w2.cell? ⟨w.heap.size + 1, 6, none⟩ = some (.int .i64 q.t.hi) := HQ2.out.c 6 _ rfl
    have f7 : w2.cell? ⟨w.heap.size + 1, 7, none⟩ = some (.slice a2 n2 c2) := by rw [← HE.out.2.1]; exact HQ2.out.c 7 _ rfl
    have f8 : w2.cell? ⟨w.heap.size + 1, 8, none⟩ = some (.int .i64 q.g) := HQ2.out.c 8 _ rfl
    have f9 : w2.cell? ⟨w.heap.size + 1, 9, none⟩ = some (.slice a3 n3 c3) := by rw [← HE.out.2.2.1]; exact HQ2.out.c 9 _ rfl
    have f10 : w2.cell? ⟨w.heap.size + 1, 10, none⟩ = some (.slice a4 n4 c4) := by rw [← HE.out.2.2.2]; exact HQ2.out.c 10 _ rfl
    have f11 : w2.cell? ⟨w.heap.size + 1, 11, none⟩ = some (.int .i64 q.G) := HQ2.out.c 11 _ rfl
    have f12 : w2.cell? ⟨w.heap.size + 1, 12, none⟩ = some (.int .i64 q.R) := HQ2.out.c 12 _ rfl
    have kR := refchk_any w2 D M q HQ2.out.ok
    rw [HE.out.1, HE.out.2.1, HE.out.2.2.1, HE.out.2.2.2] at kR
    go_wp2_with fail
    refine kR.mono ?_
    rintro e w3 ⟨hr, b3⟩
    have HQ3 : Hid (QB w3 w.heap.size (w.heap.size + 1) D M q) := HQ2.out.up b3
    have HG3 : Hid (Below w.heap.size w w3) := HG2.out.trans (b3.mono HG2.out.size)
    have HB3 : Hid (Below w2.heap.size w2 w3) := b3
    clear b3 kR g0 g1 f0 f1 f2 f3 f4 f5 f6 f7 f8 f9 f10 f11 f12
    rcases hr with ⟨hall2, -⟩ | ⟨k2, hk2, hlow2, hne2, rfl⟩
    · exact absurd (hall2 k HK.out.1) HK.out.2.2
    obtain rfl : k2 = k := by
      rcases Nat.lt_trichotomy k2 k with h1 | h1 | h1
      · exact absurd (HK.out.2.1 k2 h1) hne2
      · exact h1
      · exact absurd (hlow2 k h1) HK.out.2.2
    rw [HLI.out]
    obtain ⟨nk, hnk⟩ : ∃ nk, nk = nam k2 := ⟨_, rfl⟩
    have hz := nam_ok k2 HK.out.1
    rw [← hnk] at hz ⊢
    have x0 : w3.cell? ⟨B, 0, none⟩ = some (.string nk) := by rw [HB3.out.cell (by exact HB2.out), hnk]; exact HB0.out
    have x1 : w3.cell? ⟨B, 1, none⟩ = some (.int .i64 i) := by rw [HB3.out.cell (by exact HB2.out)]; exact HB1.out
    have s1 : ¬ nk = ⟨#[]⟩ := fun e => by rw [e] at hz; exact absurd hz.2 (by decide)
    have s5 : ¬ nk.toList = [] := ba_ne s1
    have s2 : (nk.toList == (⟨#[]⟩ : ByteArray).toList) = false := by rw [beq_eq_false_iff_ne, ba_nil]; exact s5
    have s3 : (nk.toList == []) = false := by rw [beq_eq_false_iff_ne]; exact s5
    have s4 : nk.toList.isEmpty = false := by cases hh : nk.toList with | nil => exact absurd hh s5 | cons a l => rfl
    have HZ : Hid (nk.size ≤ 100) := hz.1
    have hBl : B < w3.heap.size := World.block_lt_of_cell? _ _ x0
    obtain ⟨V, hV⟩ : ∃ V, V = w3.alloc (.cells #[.pointer none] 42) := ⟨_, rfl⟩
    have bV : Below w3.heap.size w3 V := by rw [hV]; exact (Grows.alloc _ _).below
    have tV : V.cell? ⟨w3.heap.size, 0, none⟩ = some (.pointer none) := by rw [hV]; simp
    have fV : V.frozen? ⟨w3.heap.size, 0, none⟩ = false := by rw [hV]; simp
    have kI := is_wrong ⟨B, 0, none⟩ V
    have kA := as_wrong ⟨B, 0, none⟩ ⟨w3.heap.size, 0, none⟩ (.pointer none) V ((HH.out.up HG3.out).up bV) tV fV
    obtain ⟨X, hX⟩ : ∃ X, X = asW V ⟨w3.heap.size, 0, none⟩ ⟨B, 0, none⟩ := ⟨_, rfl⟩
    rw [← hX] at kA
    have bX : Below w3.heap.size w3 X := by
      rw [hX]; unfold asW
      exact Below.setCell (p := ⟨w3.heap.size, 0, none⟩) ((((bV.alloc bV.size _).alloc (Nat.le_trans bV.size (by simp)) _).alloc (Nat.le_trans bV.size (by simp; omega)) _).alloc (Nat.le_trans bV.size (by simp; omega)) _) (Nat.le_refl _) _
    have tX : X.cell? ⟨w3.heap.size, 0, none⟩ = some (.pointer (some ⟨B, 0, none⟩)) := by
      rw [hX]; unfold asW
      exact World.cell?_setCell_same _ _ _ (cell_grow (cell_grow (cell_grow (cell_grow tV _) _) _) _)
    have y0 : X.cell? ⟨B, 0, none⟩ = some (.string nk) := by rw [bX.cell (by exact hBl)]; exact x0
    have y1 : X.cell? ⟨B, 1, none⟩ = some (.int .i64 i) := by rw [bX.cell (by exact hBl)]; exact x1
    have HGX : Hid (Below w.heap.size w X) := HG3.out.trans (bX.mono HG3.out.size)
    have kE := error_wrong X B nk i hi HZ.out y0 y1
    rw [hV] at kI kA
    clear bV tV fV hX hV bX x0 x1 hz hnk hBl hlow2 hne2 hk2
    go_wp2_with fail
    refine kI.mono ?_
    rintro e w4 ⟨rfl, rfl⟩
    clear kI
    go_wp2_with fail
    refine kA.mono ?_
    rintro e X ⟨rfl, rfl⟩
    clear kA
    go_wp2_with fail
    refine kE.mono ?_
    rintro e w5 ⟨⟨t, rfl, hne⟩, b5⟩
    have r5 : ¬ t.toList = [] := ba_ne hne
    have r2 : (t.toList == (⟨#[]⟩ : ByteArray).toList) = false := by rw [beq_eq_false_iff_ne, ba_nil]; exact r5
    have r3 : (t.toList == []) = false := by rw [beq_eq_false_iff_ne]; exact r5
    have r4 : t.toList.isEmpty = false := by cases hh : t.toList with | nil => exact absurd hh r5 | cons a l => rfl
    have r6 : (t.toList != (⟨#[]⟩ : ByteArray).toList) = true := by unfold bne; rw [r2]; rfl
    have r7 : (t.toList != []) = true := by unfold bne; rw [r3]; rfl
    have HG5 : Hid (Below w.heap.size w w5) := HGX.out.trans (b5.below.mono HGX.out.size)
    have kD := code_wrong ⟨B, 0, none⟩ w5 (HH.out.up HG5.out)
    clear b5 kE
    go_wp2_with fail
    refine kD.mono ?_
    rintro e w6 ⟨rfl, b6⟩
    have HG6 : Hid (Below w.heap.size w w6) := HG5.out.trans (b6.mono HG5.out.size)
    clear b6 kD
    go_wp2_with fail
    go_ret
    exact ⟨rfl, HG6.out⟩
end Go.Proofs.YtiiihjihegilnaaGreatDoor
