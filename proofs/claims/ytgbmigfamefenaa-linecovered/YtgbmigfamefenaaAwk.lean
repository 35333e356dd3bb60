/- Contract: awake. -/
import Derived.Test.YtgbmigfamefenaaMad
namespace Go.Proofs.Ytgbmigfamefenaa
open Go.Shelf Go.RowKit Go.Maps Go.Sort
set_option linter.unusedVariables false

def sA : List Es := [((0, 10, 0), 1, [0])]
def sB : List Es := [((0, 10, 0), 1, [0]), ((3, 6, 1), 2, [0])]
def sC : List Es := [((0, 10, 0), 1, [0]), ((3, 6, 1), 2, [0, 1])]
theorem add_A : addF [] ((0, 10, 0), 0, 1) = (0, sA) := by decide +kernel
theorem add_B : addF sA ((3, 6, 1), 0, 2) = (0, sB) := by decide +kernel
theorem add_C : addF sB ((3, 6, 1), 1, 2) = (0, sC) := by decide +kernel
theorem ck_B : CK sB = [(0, 10, 0)] := by decide +kernel
theorem ck_C : CK sC = [(0, 10, 0), (3, 6, 1)] := by decide +kernel
theorem say_B {out : List S3} (h : Say (keysF (pC 0 8 sB) sB) out 1099511627776) : out = [((0, 10, 0), 0, 10)] := by
  have hL : ∀ k, k ∈ keysF (pC 0 8 sB) sB ↔ k = (0, 10, 0) := by
    intro k
    rw [mem_LK, ck_B, List.mem_singleton]
    constructor
    · rintro ⟨q, _⟩; exact q
    · rintro rfl; exact ⟨rfl, by decide⟩
  refine say_unique (fun _ _ _ => Iff.rfl) h ⟨?_, ?_, trivial, ?_, ?_, ?_⟩
  · intro s hs; simp at hs; subst hs; decide
  · exact List.pairwise_singleton ..
  · intro s hs; simp at hs; subst hs; decide
  · intro s hs x h1 h2
    simp at hs; subst hs
    exact ⟨(hL _).2 rfl, ⟨h1, h2⟩, fun o ho _ => .inl ((hL _).1 ho)⟩
  · rintro x hx ⟨k, hk, h2⟩
    have := (hL _).1 hk
    subst this
    exact ⟨_, List.mem_singleton.2 rfl, h2.1, h2.2⟩
theorem say_C {out : List S3} (h : Say (keysF (pC 0 8 sC) sC) out 1099511627776) : out = [((0, 10, 0), 0, 3), ((3, 6, 1), 3, 6), ((0, 10, 0), 6, 10)] := by
  have hL : ∀ k, k ∈ keysF (pC 0 8 sC) sC ↔ k = (0, 10, 0) ∨ k = (3, 6, 1) := by
    intro k
    rw [mem_LK, ck_C, List.mem_cons, List.mem_singleton]
    constructor
    · rintro ⟨q, _⟩; exact q
    · rintro (rfl | rfl)
      · exact ⟨.inl rfl, by decide⟩
      · exact ⟨.inr rfl, by decide⟩
  refine say_unique (fun _ _ _ => Iff.rfl) h ⟨?_, ?_, ?_, ?_, ?_, ?_⟩
  · intro s hs; simp at hs; rcases hs with rfl | rfl | rfl <;> decide
  · unfold Chn; decide +kernel
  · exact ⟨by decide, by decide, trivial⟩
  · intro s hs; simp at hs; rcases hs with rfl | rfl | rfl <;> decide
  · intro s hs x h1 h2
    simp at hs
    rcases hs with rfl | rfl | rfl
    · simp only at h1 h2
      refine ⟨(hL _).2 (.inl rfl), ⟨by simp only; omega, by simp only; omega⟩, fun o ho hx => ?_⟩
      rcases (hL _).1 ho with rfl | rfl
      · exact .inl rfl
      · unfold Hl at hx; simp only at hx; omega
    · simp only at h1 h2
      refine ⟨(hL _).2 (.inr rfl), ⟨by simp only; omega, by simp only; omega⟩, fun o ho hx => ?_⟩
      rcases (hL _).1 ho with rfl | rfl
      · exact .inr (by unfold Ahd; simp only; omega)
      · exact .inl rfl
    · simp only at h1 h2
      refine ⟨(hL _).2 (.inl rfl), ⟨by simp only; omega, by simp only; omega⟩, fun o ho hx => ?_⟩
      rcases (hL _).1 ho with rfl | rfl
      · exact .inl rfl
      · unfold Hl at hx; simp only at hx; omega
  · rintro x hx ⟨k, hk, h2⟩
    unfold Hl at h2
    rcases (hL _).1 hk with rfl | rfl
    · simp only at h2
      by_cases h3 : x < 3
      · exact ⟨((0, 10, 0), 0, 3), by simp, by simp only; omega, by simp only; omega⟩
      · by_cases h6 : x < 6
        · exact ⟨((3, 6, 1), 3, 6), by simp, by simp only; omega, by simp only; omega⟩
        · exact ⟨((0, 10, 0), 6, 10), by simp, by simp only; omega, by simp only; omega⟩
    · simp only at h2
      exact ⟨((3, 6, 1), 3, 6), by simp, by simp only; omega, by simp only; omega⟩
theorem lk_B : lkF sB (cutS 0 8 [((0, 10, 0), 0, 10)]) = [(((0, 10, 0), 0, 1), 0, 8)] := by decide +kernel
theorem lk_C : lkF sC (cutS 0 8 [((0, 10, 0), 0, 3), ((3, 6, 1), 3, 6), ((0, 10, 0), 6, 10)]) = [(((0, 10, 0), 0, 1), 0, 3), (((3, 6, 1), 0, 2), 3, 6), (((3, 6, 1), 1, 2), 3, 6), (((0, 10, 0), 0, 1), 6, 8)] := by decide +kernel
theorem wf_A : Wf sA := by have := (add_wf Wf.nil ((0, 10, 0), 0, 1) ⟨by decide, by decide, by decide, by decide, by decide, by decide⟩).1; rw [add_A] at this; exact this
theorem wf_B : Wf sB := by have := (add_wf wf_A ((3, 6, 1), 0, 2) ⟨by decide, by decide, by decide, by decide, by decide, by decide⟩).1; rw [add_B] at this; exact this
theorem wf_C : Wf sC := by have := (add_wf wf_B ((3, 6, 1), 1, 2) ⟨by decide, by decide, by decide, by decide, by decide, by decide⟩).1; rw [add_C] at this; exact this
/-- A timeline in new memory, and boxes that aren't its. -/
structure Tn (w0 w : World) (t : Nat) (F : Nat → Prop) (s : List Es) : Prop where
  tl : Tl w t F s
  fn : ∀ i, F i → w0.heap.size ≤ i
  bel : Below w0.heap.size w0 w
theorem Tn.up {w0 w w' : World} {t : Nat} {F : Nat → Prop} {s : List Es} (h : Tn w0 w t F s) (hb : Below w.heap.size w w') : Tn w0 w' t F s := ⟨h.tl.below hb, h.fn, h.bel.trans (hb.mono h.bel.size)⟩
theorem Tn.step {w0 w w' : World} {t : Nat} {F F' : Nat → Prop} {s s' : List Es} (h : Tn w0 w t F s) (k : Tw w w' t F s' F') : Tn w0 w' t F' s' := by
  refine ⟨k.tl, fun i hi => ?_, h.bel.trans (k.fr.below h.bel.size h.fn)⟩
  rcases k.dn i hi with q | q
  · exact h.fn i q
  · have := h.bel.size; omega
structure Bo (w : World) (F : Nat → Prop) (b : Nat) (ty : TypeId) (cs : Array Value) : Prop where
  x : BxA w b ty cs
  n : ¬ F b
theorem Bo.up {w w' : World} {F : Nat → Prop} {b : Nat} {ty : TypeId} {cs : Array Value} (h : Bo w F b ty cs) (hb : Below w.heap.size w w') : Bo w' F b ty cs := ⟨h.x.up hb, h.n⟩
theorem Bo.step {w w' : World} {t : Nat} {F F' : Nat → Prop} {s' : List Es} {b : Nat} {ty : TypeId} {cs : Array Value} (h : Bo w F b ty cs) (k : Tw w w' t F s' F') : Bo w' F' b ty cs := by
  refine ⟨h.x.fr k.fr h.n, fun q => ?_⟩
  rcases k.dn b q with r | r
  · exact h.n r
  · have := h.x.lt; omega
theorem AtP.up {w w' : World} {b o : Nat} {p : Pc} (h : AtP w b o p) (hb : Below w.heap.size w w') : AtP w' b o p := by
  have up : ∀ o' u, w.cell? ⟨b, o', none⟩ = some u → w'.cell? ⟨b, o', none⟩ = some u := fun o' u hu => (hb.cell (World.block_lt_of_cell? _ _ hu)).trans hu
  exact ⟨h.g.up hb, up _ _ h.c5, up _ _ h.c6⟩
theorem AtP.fr {w w' : World} {F : Nat → Prop} {b o : Nat} {p : Pc} (h : AtP w b o p) (hb : Fr F w w') (hn : ¬ F b) : AtP w' b o p := by
  have up : ∀ o' u, w.cell? ⟨b, o', none⟩ = some u → w'.cell? ⟨b, o', none⟩ = some u := fun o' u hu => by
    rw [World.cell?_of_block (w := w) (hb.block b (World.block_lt_of_cell? _ _ hu) hn)]
    exact hu
  exact ⟨⟨up _ _ h.g.c0, up _ _ h.g.c1, up _ _ h.g.c2, up _ _ h.g.c3, up _ _ h.g.c4⟩, up _ _ h.c5, up _ _ h.c6⟩
set_option maxRecDepth 100000 in
set_option maxHeartbeats 12800000 in
theorem awake_any (w : World) : Calls Try.prog 9 #[] w fun e w' => e = .returned (.bool true) ∧ Below w.heap.size w w' := by
  have mixed : Try.prog.follows .mixedOrders = true := by kernel_rfl
  have kN := new_any w
  obtain ⟨t, ht⟩ : ∃ t, t = w.heap.size := ⟨_, rfl⟩
  rw [← ht] at kN
  have HTT := hide ht
  clear ht
  go_enter Try.func9, Try.ntmps9
  go_wp2_with fail
  refine kN.mono ?_
  rintro ev w1 ⟨rfl, tl1, b1⟩
  have ht1 : Tn w w1 t (fun i => i = t) [] := ⟨tl1, fun i hi => by have := HTT.out; omega, by rw [HTT.out] at b1; exact b1⟩
  obtain ⟨b2, hb2⟩ : ∃ b, b = w1.heap.size := ⟨_, rfl⟩
  obtain ⟨w2, hw2⟩ : ∃ w2, w2 = w1.alloc (.cells #[.int .i64 0, .int .i64 10, .int .i64 0, .int .i64 0, .int .i64 1] 32) := ⟨_, rfl⟩
  obtain ⟨w3, hw3⟩ : ∃ w3, w3 = w2.alloc (.cells #[.int .i64 3, .int .i64 6, .int .i64 1, .int .i64 0, .int .i64 2] 32) := ⟨_, rfl⟩
  obtain ⟨w4, hw4⟩ : ∃ w4, w4 = w3.alloc (.cells #[.int .i64 3, .int .i64 6, .int .i64 1, .int .i64 1, .int .i64 2] 32) := ⟨_, rfl⟩
  have hs2 : w2.heap.size = b2 + 1 := by rw [hw2, hb2]; simp
  have hs3 : w3.heap.size = b2 + 2 := by rw [hw3]; simp [hs2]
  have g12 : Below w1.heap.size w1 w2 := by rw [hw2]; exact (Grows.alloc _ _).below
  have g23 : Below w2.heap.size w2 w3 := by rw [hw3]; exact (Grows.alloc _ _).below
  have g34 : Below w3.heap.size w3 w4 := by rw [hw4]; exact (Grows.alloc _ _).below
  have hlt : t < w1.heap.size := tl1.lt t rfl
  have o2 : Bo w4 (fun i => i = t) b2 32 #[.int .i64 0, .int .i64 10, .int .i64 0, .int .i64 0, .int .i64 1] := by
    refine ⟨BxA.up (BxA.up ?_ g23) g34, by omega⟩
    rw [hb2, hw2]; exact BxA.new _ _ _
  have o3 : Bo w4 (fun i => i = t) (b2 + 1) 32 #[.int .i64 3, .int .i64 6, .int .i64 1, .int .i64 0, .int .i64 2] := by
    refine ⟨BxA.up ?_ g34, by omega⟩
    rw [← hs2, hw3]; exact BxA.new _ _ _
  have o4 : Bo w4 (fun i => i = t) (b2 + 2) 32 #[.int .i64 3, .int .i64 6, .int .i64 1, .int .i64 1, .int .i64 2] := by
    refine ⟨?_, by omega⟩
    rw [← hs3, hw4]; exact BxA.new _ _ _
  have ht4 : Tn w w4 t (fun i => i = t) [] := ((ht1.up g12).up g23).up g34
  have HW4 : Hid (w4 = ((w1.alloc (.cells #[.int .i64 0, .int .i64 10, .int .i64 0, .int .i64 0, .int .i64 1] 32)).alloc (.cells #[.int .i64 3, .int .i64 6, .int .i64 1, .int .i64 0, .int .i64 2] 32)).alloc (.cells #[.int .i64 3, .int .i64 6, .int .i64 1, .int .i64 1, .int .i64 2] 32)) := by apply hide; rw [hw4, hw3, hw2]
  have kA := add_any w4 t _ [] 0 10 0 0 1 ht4.tl Wf.nil ⟨by decide, by decide, by decide, by decide, by decide, by decide⟩ (by simp) (by simp)
  rw [add_A] at kA
  have HO2 := hide o2
  have HO3 := hide o3
  have HO4 := hide o4
  have HT4 := hide ht4
  have HB2 := hide hb2
  have c0 := o2.x.cell 0 _ rfl
  have c1 := o2.x.cell 1 _ rfl
  have c2 := o2.x.cell 2 _ rfl
  have c3 := o2.x.cell 3 _ rfl
  have c4 := o2.x.cell 4 _ rfl
  clear kN tl1 b1 ht1 hb2 hw2 hw3 hw4 hs2 hs3 g12 g23 g34 hlt o2 o3 o4 ht4
  go_upto_region 7 with fail
  rw [← HW4.out, ← HB2.out]
  go_wp2_with fail
  refine kA.mono ?_
  rintro ev w5 ⟨rfl, F5, k5⟩
  have HT5 := hide (HT4.out.step k5)
  have HP2 := hide (HO2.out.step k5)
  have HP3 := hide (HO3.out.step k5)
  have HP4 := hide (HO4.out.step k5)
  have kB := add_any w5 t F5 sA 3 6 1 0 2 HT5.out.tl wf_A ⟨by decide, by decide, by decide, by decide, by decide, by decide⟩ (by decide) (by decide)
  rw [add_B] at kB
  clear kA k5 c0 c1 c2 c3 c4
  have c0 := HP3.out.x.cell 0 _ rfl
  have c1 := HP3.out.x.cell 1 _ rfl
  have c2 := HP3.out.x.cell 2 _ rfl
  have c3 := HP3.out.x.cell 3 _ rfl
  have c4 := HP3.out.x.cell 4 _ rfl
  go_wp2_with fail
  refine kB.mono ?_
  rintro ev w6 ⟨rfl, F6, k6⟩
  have HT6 := hide (HT5.out.step k6)
  have HQ2 := hide (HP2.out.step k6)
  have HQ4 := hide (HP4.out.step k6)
  have kL := lookup_any w6 t F6 sB 0 8 HT6.out.tl wf_B (by decide) (by decide)
  clear kB k6 c0 c1 c2 c3 c4
  go_wp2_with fail
  refine kL.mono ?_
  rintro ev w7 ⟨vx, rfl, out, sy, o7, b7⟩
  obtain rfl := say_B sy
  rw [lk_B] at o7
  have HT7 := hide (HT6.out.up b7)
  have HR2 := hide (HQ2.out.up b7)
  have HR4 := hide (HQ4.out.up b7)
  have hx7 := (RdsK.of_own o7).pieces
  obtain ⟨xa, xc, hvx, hxc1, hxc2, hxc3⟩ := hx7
  obtain ⟨xb, xo, hxa, hxat⟩ := hxc3 (by decide)
  have hAX : AtP w7 xb xo (((0, 10, 0), 0, 1), 0, 8) := by
    have := hxat 0 (by decide)
    rw [Nat.zero_mul, Nat.add_zero] at this
    exact this
  have hXN : ¬ F6 xb := fun hf => by
    have h1 := HT6.out.tl.lt _ hf
    have h2 := (own_lt o7 xb (by rw [hvx, hxa]; rfl)).1
    omega
  have HAX := hide hAX
  have HXN := hide hXN
  subst hxa
  have kC := add_any w7 t F6 sB 3 6 1 1 2 HT7.out.tl wf_B ⟨by decide, by decide, by decide, by decide, by decide, by decide⟩ (by decide) (by decide)
  rw [add_C] at kC
  have c0 := HR4.out.x.cell 0 _ rfl
  have c1 := HR4.out.x.cell 1 _ rfl
  have c2 := HR4.out.x.cell 2 _ rfl
  have c3 := HR4.out.x.cell 3 _ rfl
  have c4 := HR4.out.x.cell 4 _ rfl
  have hxl : ([(((0, 10, 0), 0, 1), 0, 8)] : List Pc).length = 1 := rfl
  rw [hxl] at hvx hxc1
  unfold maxLen at hxc2
  clear kL sy o7 b7 hxc3 hxat hAX hXN hxl
  subst hvx
  go_wp2_with fail
  refine kC.mono ?_
  rintro ev w8 ⟨rfl, F8, k8⟩
  have HT8 := hide (HT7.out.step k8)
  have HS2 := hide (HR2.out.step k8)
  have HS4 := hide (HR4.out.step k8)
  have HAX8 := hide (HAX.out.fr k8.fr HXN.out)
  have kL := lookup_any w8 t F8 sC 0 8 HT8.out.tl wf_C (by decide) (by decide)
  clear kC k8 c0 c1 c2 c3 c4
  go_wp2_with fail
  refine kL.mono ?_
  rintro ev w9 ⟨vy, rfl, out, sy, o9, b9⟩
  obtain rfl := say_C sy
  rw [lk_C] at o9
  have HT9 := hide (HT8.out.up b9)
  have hx9 := (RdsK.of_own o9).pieces
  obtain ⟨ya, yc, hvy, hyc1, hyc2, hyc3⟩ := hx9
  obtain ⟨yb, yo, hya, hyat⟩ := hyc3 (by decide)
  have p2 := hyat 2 (by decide)
  have p3 := hyat 3 (by decide)
  simp only [List.getElem_cons_succ, List.getElem_cons_zero] at p2 p3
  have hyl : ([(((0, 10, 0), 0, 1), 0, 3), (((3, 6, 1), 0, 2), 3, 6), (((3, 6, 1), 1, 2), 3, 6), (((0, 10, 0), 0, 1), 6, 8)] : List Pc).length = 4 := rfl
  rw [hyl] at hvy hyc1
  unfold maxLen at hyc2
  have pX := HAX8.out.up b9
  have q2 := (HS2.out.up b9).x
  have q4 := (HS4.out.up b9).x
  subst hya
  subst hvy
  have x0 := fun nq os => gro_cell pX.g.c0 nq os
  have x1 := fun nq os => gro_cell pX.g.c1 nq os
  have x2 := fun nq os => gro_cell pX.g.c2 nq os
  have x3 := fun nq os => gro_cell pX.g.c3 nq os
  have x4 := fun nq os => gro_cell pX.g.c4 nq os
  have x5 := fun nq os => gro_cell pX.c5 nq os
  have x6 := fun nq os => gro_cell pX.c6 nq os
  have y0 := fun nq os => gro_cell p2.g.c0 nq os
  have y1 := fun nq os => gro_cell p2.g.c1 nq os
  have y2 := fun nq os => gro_cell p2.g.c2 nq os
  have y3 := fun nq os => gro_cell p2.g.c3 nq os
  have y4 := fun nq os => gro_cell p2.g.c4 nq os
  have y5 := fun nq os => gro_cell p2.c5 nq os
  have y6 := fun nq os => gro_cell p2.c6 nq os
  have u5 := fun nq os => gro_cell p3.c5 nq os
  have u6 := fun nq os => gro_cell p3.c6 nq os
  have a0 := fun nq os => gro_cell (q2.cell 0 _ rfl) nq os
  have a1 := fun nq os => gro_cell (q2.cell 1 _ rfl) nq os
  have a2 := fun nq os => gro_cell (q2.cell 2 _ rfl) nq os
  have a3 := fun nq os => gro_cell (q2.cell 3 _ rfl) nq os
  have a4 := fun nq os => gro_cell (q2.cell 4 _ rfl) nq os
  have d0 := fun nq os => gro_cell (q4.cell 0 _ rfl) nq os
  have d1 := fun nq os => gro_cell (q4.cell 1 _ rfl) nq os
  have d2 := fun nq os => gro_cell (q4.cell 2 _ rfl) nq os
  have d3 := fun nq os => gro_cell (q4.cell 3 _ rfl) nq os
  have d4 := fun nq os => gro_cell (q4.cell 4 _ rfl) nq os
  simp only [Nat.reduceMul, Nat.add_assoc, Nat.reduceAdd] at x0 x1 x2 x3 x4 x5 x6 y0 y1 y2 y3 y4 y5 y6 u5 u6
  clear kL sy o9 b9 hyc3 hyat hyl p2 p3 pX q2 q4
  go_upto_region 12 with fail
  refine wp_region_quiet_grown (by assumption) (by kernel_rfl) ?_
  repeat (go_big_quiet_step (first | fail))
  refine wpQuiet_nil ?_
  intro V hw'
  obtain ⟨⟨nq, osq⟩, hw''⟩ := hw'
  have HV : Hid (Below w.heap.size w V) := by apply hide; rw [hw'']; exact HT9.out.bel.trans ((gro_below w9 nq osq).mono HT9.out.bel.size)
  clear hw'' x0 x1 x2 x3 x4 x5 x6 y0 y1 y2 y3 y4 y5 y6 u5 u6 a0 a1 a2 a3 a4 d0 d1 d2 d3 d4
  go_wp2_with fail
  go_ret
  exact ⟨rfl, HV.out⟩
end Go.Proofs.Ytgbmigfamefenaa
