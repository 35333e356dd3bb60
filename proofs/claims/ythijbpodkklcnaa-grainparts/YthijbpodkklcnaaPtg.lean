/- The walk of GrainParts. -/
import Derived.Test.YthijbpodkklcnaaMtsA
import Derived.Test.YthijbpodkklcnaaCMath
namespace Go.Proofs.Ythijbpodkklcnaa
open Go.RowKit Go.Sort

set_option maxHeartbeats 8000000 in
set_option maxRecDepth 100000 in
theorem parts_walk (w : World) (s : Sp) (hs : In64 s.1 ∧ In64 s.2) (g : Int) (hg : In64 g) (t : Int) (_ht : In64 t) :
    Calls Try.prog 7 #[.agg #[.int .i64 s.1, .int .i64 s.2], .int .i64 g, .int .i64 t] w fun e w' => e = .returned (.bool true) ∧ Below w.heap.size w w' := by
  clear _ht
  obtain ⟨F, T⟩ := s
  simp only at *
  obtain ⟨W, hW⟩ : ∃ W, W = w.alloc (.cells #[.int .i64 F, .int .i64 T] 23) := ⟨_, rfl⟩
  have kA := awake_any W
  have bW : Below w.heap.size w W := by rw [hW]; exact (Grows.alloc _ _).below
  have hsW : W.heap.size = w.heap.size + 1 := by rw [hW]; simp
  have c0 : W.cell? ⟨w.heap.size, 0, none⟩ = some (.int .i64 F) ∧ W.cell? ⟨w.heap.size, 1, none⟩ = some (.int .i64 T) := by
    rw [hW]; exact At.new w (F, T) _ rfl
  have HX : Hid _ := And.intro bW (And.intro c0 hsW)
  rw [hW] at kA
  have HW : Hid _ := hW
  have mixed : Try.prog.follows .mixedOrders = true := by kernel_rfl
  clear hW bW c0 hsW
  go_enter Try.func7, Try.ntmps7
  go_upto_region 2 with fail
  refine kA.mono ?_
  rintro e w1 ⟨rfl, bb1⟩
  rw [← HW.out] at bb1
  obtain ⟨bW, c0, hsW⟩ := HX.out
  have HB1 : Hid (Below w.heap.size w w1) := bW.trans (bb1.mono (by omega))
  have d0 : w1.cell? ⟨w.heap.size, 0, none⟩ = some (.int .i64 F) := by rw [bb1.cell (by rw [hsW]; simp)]; exact c0.1
  have d1 : w1.cell? ⟨w.heap.size, 1, none⟩ = some (.int .i64 T) := by rw [bb1.cell (by rw [hsW]; simp)]; exact c0.2
  have kS := split_any w1 (F, T) g hs.1 hs.2 hg
  simp only at kS
  obtain ⟨Z, hZ⟩ : ∃ Z, splitE (F, T) g = Z := ⟨_, rfl⟩
  have HZ : Hid _ := hZ
  rw [hZ] at kS
  clear kA HX bW c0 hsW bb1 HW hZ
  go_wp2_with fail
  refine kS.mono ?_
  rintro e w2 ⟨v2, rfl, o2, b2⟩
  have HB2 : Hid (Below w.heap.size w w2) := HB1.out.trans (b2.mono HB1.out.size)
  have s0 : w2.cell? ⟨w.heap.size, 0, none⟩ = some (.int .i64 F) := by rw [b2.cell (World.block_lt_of_cell? _ _ d0)]; exact d0
  have s1 : w2.cell? ⟨w.heap.size, 1, none⟩ = some (.int .i64 T) := by rw [b2.cell (World.block_lt_of_cell? _ _ d1)]; exact d1
  obtain ⟨al, nl, cl, hv2⟩ := own_sl o2
  subst hv2
  have rl := o2.rd
  have hl2 := rl.at.1
  clear kS o2 b2 d0 d1 HB1
  cases Z with
  | none =>
    have hl3 : nl = 0 := hl2
    have he : errE none = 1 := rfl
    rw [he]
    subst hl3
    clear hl2 rl he
    go_wp2_with fail
    go_ret
    exact ⟨rfl, HB2.out⟩
  | some l =>
    have he : errE (some l) = 0 := rfl
    rw [he]
    obtain ⟨hcut, hg1⟩ := split_is hs.1 hs.2 HZ.out
    simp only at hcut
    have hlen := split_length HZ.out
    have HRl : Hid (RdP w2 (.slice al nl cl) l) := rl
    have HN : Hid (nl = l.length) := hl2
    obtain ⟨-, hnc, hcm, -⟩ := HRl.out.at
    unfold maxLen at hcm
    have hn1 : nl ≤ 1000 := by have := HN.out; omega
    have HCt : Hid (Cut g F T l) := hcut
    have HIs : Hid (In64 F ∧ In64 T ∧ In64 g) := ⟨hs.1, hs.2, hg⟩
    clear he hcut hlen rl hl2 hs hg
    go_wp2_with fail
    go_loopg [10, 11] nl (fun kx vn vi wr => ∃ (i c : Nat), vn = .int .i64 c ∧ vi = .int .i64 i ∧ i ≤ nl ∧ nl - i ≤ kx ∧ c ≤ i ∧ Hid (c = ((l.take i).filter fun p => hol p t).length) ∧ Hid (Grows w2 wr))
    case atStart => exact ⟨0, 0, rfl, rfl, by omega, Nat.le_refl _, Nat.le_refl _, rfl, Grows.refl _⟩
    case round =>
      obtain ⟨i, c, rfl, rfl, hin, hkx, hci, HCn, HG⟩ := hrel
      replace s0 := HG.out.cell s0
      replace s1 := HG.out.cell s1
      by_cases hlt : i < nl
      · have hltz : (i : Int) < (nl : Int) := by omega
        have hil : i < l.length := by have := HN.out; omega
        have hr := HRl.out.below HG.out.below
        obtain ⟨-, -, -, hk⟩ := hr.at
        obtain ⟨b, off, rfl, hcl⟩ := hk (by omega)
        obtain ⟨q0, q1⟩ := hcl i hil
        have hmem : l[i] ∈ l := List.getElem_mem hil
        obtain ⟨j1, j2, j3, j4⟩ := HCt.out.each _ hmem
        have htk : l.take (i + 1) = l.take i ++ [l[i]] := List.take_succ_eq_append_getElem hil
        have kH := holds_any wr l[i] t
        have HT0 : Hid (((l.take (i + 1)).filter fun p => hol p t).length = c + if hol l[i] t then 1 else 0) := by
          show _ = _
          rw [htk, List.filter_append, List.length_append, ← HCn.out]
          congr 1
          cases e : hol l[i] t <;> simp [e]
        have hto : ∀ (k : Nat) (hk : i = k + 1), (l[k]'(by omega)).2 = (l[i]).1 := fun k hk => by subst hk; exact HCt.out.touch k (by omega)
        have HTo : Aside _ := hto
        have HPr : Aside (∀ (k : Nat) (hk : i = k + 1), wr.cell? ⟨b, off + k * 2 + 1, none⟩ = some (.int .i64 (l[k]'(by omega)).2)) := fun k hk => (hcl k (by omega)).2
        have HPq : Aside (∀ (k : Nat), i = k + 1 → wr.cell? ⟨b, off + k * 2 + 1, none⟩ = some (.int .i64 (l[i]).1)) := fun k hk => by rw [← hto k hk]; exact (hcl k (by omega)).2
        clear hto HTo HPr
        generalize l[i] = x at *
        obtain ⟨A, B⟩ := x
        simp only at q0 q1 j1 j2 j3 j4 kH
        have HE : Hid (emp (A, B) = false) := by show _ = _; simp [emp]; omega
        have HCv : Hid (cov (F, T) (A, B) = true) := by show _ = _; simp [cov]; exact .inr ⟨j2, j3⟩
        obtain ⟨D, hD⟩ : ∃ D, bck A g = D := ⟨_, rfl⟩
        have HD : Hid (bck A g = D ∧ bck (B - 1) g = D) := ⟨hD, by rw [← j4]; exact hD⟩
        have HIn : Hid (In64 A ∧ In64 (B - 1) ∧ In64 g) := by
          obtain ⟨z1, z2, z3⟩ := HIs.out
          unfold In64 at *
          exact ⟨by omega, by omega, by omega⟩
        have hB1 : IntKind.i64.wrap (B - 1) = B - 1 := by
          have := HIn.out.2.1
          unfold In64 at this
          simp [IntKind.wrap, IntKind.bits, IntKind.signed]; omega
        generalize hol (A, B) t = y at *
        clear hr hcl hk htk hmem hD j1 j2 j3 j4
        cases y with
        | true =>
          have HT : Hid (c + 1 = ((l.take (i + 1)).filter fun p => hol p t).length) := HT0.out.symm
          clear HT0
          rcases Nat.eq_zero_or_pos i with hz | hp
          · subst hz
            simp only [Nat.zero_mul, Nat.add_zero] at q0 q1
            clear HPq
            go_wp2_with fail
            refine kH.mono ?_
            rintro e w4 ⟨rfl, g4⟩
            have HG4 : Hid (Grows w2 w4) := HG.out.trans g4
            have f0' := fun nq os => cell_gr (g4.cell q0) nq os
            have f1' := fun nq os => cell_gr (g4.cell q1) nq os
            have f2' := fun nq os => cell_gr (g4.cell s0) nq os
            have f3' := fun nq os => cell_gr (g4.cell s1) nq os
            have kE : ∀ nq os, Calls Try.prog 13 #[.agg #[.int .i64 A, .int .i64 B]] (grow (w4.drewN nq) os) fun e w' => e = .returned (.bool false) ∧ ∃ q os', w' = grow ((grow (w4.drewN nq) os).drewN q) os' := fun nq os => by have := empty_any (grow (w4.drewN nq) os) (A, B); rw [HE.out] at this; exact this
            have kC : ∀ nq os, Calls Try.prog 16 #[.agg #[.int .i64 F, .int .i64 T], .agg #[.int .i64 A, .int .i64 B]] (grow (w4.drewN nq) os) fun e w' => e = .returned (.bool true) ∧ ∃ q os', w' = grow ((grow (w4.drewN nq) os).drewN q) os' := fun nq os => by have := covers_any (grow (w4.drewN nq) os) (F, T) (A, B); rw [HCv.out] at this; exact this
            have kB1 : ∀ nq os, Calls Try.prog 17 #[.int .i64 A, .int .i64 g] (grow (w4.drewN nq) os) fun e w' => e = .returned (.int .i64 D) ∧ ∃ q os', w' = grow ((grow (w4.drewN nq) os).drewN q) os' := fun nq os => (bucket_any _ A g HIn.out.2.2 HIn.out.1).mono fun _ _ ⟨h1, h2⟩ => ⟨by rw [h1, HD.out.1], 0, #[], by rw [h2, grow_empty]; rfl⟩
            have kB2 : ∀ nq os, Calls Try.prog 17 #[.int .i64 (B - 1), .int .i64 g] (grow (w4.drewN nq) os) fun e w' => e = .returned (.int .i64 D) ∧ ∃ q os', w' = grow ((grow (w4.drewN nq) os).drewN q) os' := fun nq os => (bucket_any _ (B - 1) g HIn.out.2.2 HIn.out.2.1).mono fun _ _ ⟨h1, h2⟩ => ⟨by rw [h1, HD.out.2], 0, #[], by rw [h2, grow_empty]; rfl⟩
            clear kH g4
            go_wp2_with fail
            refine wp_region_quiet_grown (by assumption) (by kernel_rfl) ?_
            repeat (go_big_quiet_step (first | (go_at_call 13; with_reducible refine Calls.grown_of (kE _ _)) | (go_at_call 16; with_reducible refine Calls.grown_of (kC _ _)) | (go_at_call 17; with_reducible refine Calls.grown_of (kB1 _ _)) | (go_at_call 17; with_reducible refine Calls.grown_of (kB2 _ _))))
            refine wpQuiet_nil ?_
            intro Y hw'
            obtain ⟨⟨nq, osq⟩, hw''⟩ := hw'
            have HG6 : Hid (Grows w2 Y) := HG4.out.trans ⟨nq, osq, hw''⟩
            clear hw'' kE kC kB1 kB2
            go_wp2_with fail
            go_roundg (nl - (0 + 1))
            case measure => omega
            case rel => exact ⟨0 + 1, c + 1, by go_num, by go_num, by omega, Nat.le_refl _, by omega, HT.out, HG6.out⟩
          · obtain ⟨k, rfl⟩ : ∃ k, i = k + 1 := ⟨i - 1, by omega⟩
            have p1 := HPq.out k rfl
            have hkl : (k : Int) < (nl : Int) := by omega
            have hkd : decide (0 < k + 1) = true := by simp
            clear HPq
            go_wp2_with fail
            refine kH.mono ?_
            rintro e w4 ⟨rfl, g4⟩
            have HG4 : Hid (Grows w2 w4) := HG.out.trans g4
            have f0' := fun nq os => cell_gr (g4.cell q0) nq os
            have f1' := fun nq os => cell_gr (g4.cell q1) nq os
            have f2' := fun nq os => cell_gr (g4.cell s0) nq os
            have f3' := fun nq os => cell_gr (g4.cell s1) nq os
            have f4' := fun nq os => cell_gr (g4.cell p1) nq os
            have kE : ∀ nq os, Calls Try.prog 13 #[.agg #[.int .i64 A, .int .i64 B]] (grow (w4.drewN nq) os) fun e w' => e = .returned (.bool false) ∧ ∃ q os', w' = grow ((grow (w4.drewN nq) os).drewN q) os' := fun nq os => by have := empty_any (grow (w4.drewN nq) os) (A, B); rw [HE.out] at this; exact this
            have kC : ∀ nq os, Calls Try.prog 16 #[.agg #[.int .i64 F, .int .i64 T], .agg #[.int .i64 A, .int .i64 B]] (grow (w4.drewN nq) os) fun e w' => e = .returned (.bool true) ∧ ∃ q os', w' = grow ((grow (w4.drewN nq) os).drewN q) os' := fun nq os => by have := covers_any (grow (w4.drewN nq) os) (F, T) (A, B); rw [HCv.out] at this; exact this
            have kB1 : ∀ nq os, Calls Try.prog 17 #[.int .i64 A, .int .i64 g] (grow (w4.drewN nq) os) fun e w' => e = .returned (.int .i64 D) ∧ ∃ q os', w' = grow ((grow (w4.drewN nq) os).drewN q) os' := fun nq os => (bucket_any _ A g HIn.out.2.2 HIn.out.1).mono fun _ _ ⟨h1, h2⟩ => ⟨by rw [h1, HD.out.1], 0, #[], by rw [h2, grow_empty]; rfl⟩
            have kB2 : ∀ nq os, Calls Try.prog 17 #[.int .i64 (B - 1), .int .i64 g] (grow (w4.drewN nq) os) fun e w' => e = .returned (.int .i64 D) ∧ ∃ q os', w' = grow ((grow (w4.drewN nq) os).drewN q) os' := fun nq os => (bucket_any _ (B - 1) g HIn.out.2.2 HIn.out.2.1).mono fun _ _ ⟨h1, h2⟩ => ⟨by rw [h1, HD.out.2], 0, #[], by rw [h2, grow_empty]; rfl⟩
            clear kH g4
            go_wp2_with fail
            refine wp_region_quiet_grown (by assumption) (by kernel_rfl) ?_
            repeat (go_big_quiet_step (first | (go_at_call 13; with_reducible refine Calls.grown_of (kE _ _)) | (go_at_call 16; with_reducible refine Calls.grown_of (kC _ _)) | (go_at_call 17; with_reducible refine Calls.grown_of (kB1 _ _)) | (go_at_call 17; with_reducible refine Calls.grown_of (kB2 _ _))))
            refine wpQuiet_nil ?_
            intro Y hw'
            obtain ⟨⟨nq, osq⟩, hw''⟩ := hw'
            have HG6 : Hid (Grows w2 Y) := HG4.out.trans ⟨nq, osq, hw''⟩
            clear hw'' kE kC kB1 kB2
            go_wp2_with fail
            go_roundg (nl - ((k + 1) + 1))
            case measure => omega
            case rel => exact ⟨(k + 1) + 1, c + 1, by go_num, by go_num, by omega, Nat.le_refl _, by omega, HT.out, HG6.out⟩
        | false =>
          have HT : Hid (c = ((l.take (i + 1)).filter fun p => hol p t).length) := HT0.out.symm
          clear HT0
          rcases Nat.eq_zero_or_pos i with hz | hp
          · subst hz
            simp only [Nat.zero_mul, Nat.add_zero] at q0 q1
            clear HPq
            go_wp2_with fail
            refine kH.mono ?_
            rintro e w4 ⟨rfl, g4⟩
            have HG4 : Hid (Grows w2 w4) := HG.out.trans g4
            have f0' := fun nq os => cell_gr (g4.cell q0) nq os
            have f1' := fun nq os => cell_gr (g4.cell q1) nq os
            have f2' := fun nq os => cell_gr (g4.cell s0) nq os
            have f3' := fun nq os => cell_gr (g4.cell s1) nq os
            have kE : ∀ nq os, Calls Try.prog 13 #[.agg #[.int .i64 A, .int .i64 B]] (grow (w4.drewN nq) os) fun e w' => e = .returned (.bool false) ∧ ∃ q os', w' = grow ((grow (w4.drewN nq) os).drewN q) os' := fun nq os => by have := empty_any (grow (w4.drewN nq) os) (A, B); rw [HE.out] at this; exact this
            have kC : ∀ nq os, Calls Try.prog 16 #[.agg #[.int .i64 F, .int .i64 T], .agg #[.int .i64 A, .int .i64 B]] (grow (w4.drewN nq) os) fun e w' => e = .returned (.bool true) ∧ ∃ q os', w' = grow ((grow (w4.drewN nq) os).drewN q) os' := fun nq os => by have := covers_any (grow (w4.drewN nq) os) (F, T) (A, B); rw [HCv.out] at this; exact this
            have kB1 : ∀ nq os, Calls Try.prog 17 #[.int .i64 A, .int .i64 g] (grow (w4.drewN nq) os) fun e w' => e = .returned (.int .i64 D) ∧ ∃ q os', w' = grow ((grow (w4.drewN nq) os).drewN q) os' := fun nq os => (bucket_any _ A g HIn.out.2.2 HIn.out.1).mono fun _ _ ⟨h1, h2⟩ => ⟨by rw [h1, HD.out.1], 0, #[], by rw [h2, grow_empty]; rfl⟩
            have kB2 : ∀ nq os, Calls Try.prog 17 #[.int .i64 (B - 1), .int .i64 g] (grow (w4.drewN nq) os) fun e w' => e = .returned (.int .i64 D) ∧ ∃ q os', w' = grow ((grow (w4.drewN nq) os).drewN q) os' := fun nq os => (bucket_any _ (B - 1) g HIn.out.2.2 HIn.out.2.1).mono fun _ _ ⟨h1, h2⟩ => ⟨by rw [h1, HD.out.2], 0, #[], by rw [h2, grow_empty]; rfl⟩
            clear kH g4
            go_wp2_with fail
            refine wp_region_quiet_grown (by assumption) (by kernel_rfl) ?_
            repeat (go_big_quiet_step (first | (go_at_call 13; with_reducible refine Calls.grown_of (kE _ _)) | (go_at_call 16; with_reducible refine Calls.grown_of (kC _ _)) | (go_at_call 17; with_reducible refine Calls.grown_of (kB1 _ _)) | (go_at_call 17; with_reducible refine Calls.grown_of (kB2 _ _))))
            refine wpQuiet_nil ?_
            intro Y hw'
            obtain ⟨⟨nq, osq⟩, hw''⟩ := hw'
            have HG6 : Hid (Grows w2 Y) := HG4.out.trans ⟨nq, osq, hw''⟩
            clear hw'' kE kC kB1 kB2
            go_wp2_with fail
            go_roundg (nl - (0 + 1))
            case measure => omega
            case rel => exact ⟨0 + 1, c, by go_num, by go_num, by omega, Nat.le_refl _, by omega, HT.out, HG6.out⟩
          · obtain ⟨k, rfl⟩ : ∃ k, i = k + 1 := ⟨i - 1, by omega⟩
            have p1 := HPq.out k rfl
            have hkl : (k : Int) < (nl : Int) := by omega
            clear HPq
            go_wp2_with fail
            refine kH.mono ?_
            rintro e w4 ⟨rfl, g4⟩
            have HG4 : Hid (Grows w2 w4) := HG.out.trans g4
            have f0' := fun nq os => cell_gr (g4.cell q0) nq os
            have f1' := fun nq os => cell_gr (g4.cell q1) nq os
            have f2' := fun nq os => cell_gr (g4.cell s0) nq os
            have f3' := fun nq os => cell_gr (g4.cell s1) nq os
            have f4' := fun nq os => cell_gr (g4.cell p1) nq os
            have kE : ∀ nq os, Calls Try.prog 13 #[.agg #[.int .i64 A, .int .i64 B]] (grow (w4.drewN nq) os) fun e w' => e = .returned (.bool false) ∧ ∃ q os', w' = grow ((grow (w4.drewN nq) os).drewN q) os' := fun nq os => by have := empty_any (grow (w4.drewN nq) os) (A, B); rw [HE.out] at this; exact this
            have kC : ∀ nq os, Calls Try.prog 16 #[.agg #[.int .i64 F, .int .i64 T], .agg #[.int .i64 A, .int .i64 B]] (grow (w4.drewN nq) os) fun e w' => e = .returned (.bool true) ∧ ∃ q os', w' = grow ((grow (w4.drewN nq) os).drewN q) os' := fun nq os => by have := covers_any (grow (w4.drewN nq) os) (F, T) (A, B); rw [HCv.out] at this; exact this
            have kB1 : ∀ nq os, Calls Try.prog 17 #[.int .i64 A, .int .i64 g] (grow (w4.drewN nq) os) fun e w' => e = .returned (.int .i64 D) ∧ ∃ q os', w' = grow ((grow (w4.drewN nq) os).drewN q) os' := fun nq os => (bucket_any _ A g HIn.out.2.2 HIn.out.1).mono fun _ _ ⟨h1, h2⟩ => ⟨by rw [h1, HD.out.1], 0, #[], by rw [h2, grow_empty]; rfl⟩
            have kB2 : ∀ nq os, Calls Try.prog 17 #[.int .i64 (B - 1), .int .i64 g] (grow (w4.drewN nq) os) fun e w' => e = .returned (.int .i64 D) ∧ ∃ q os', w' = grow ((grow (w4.drewN nq) os).drewN q) os' := fun nq os => (bucket_any _ (B - 1) g HIn.out.2.2 HIn.out.2.1).mono fun _ _ ⟨h1, h2⟩ => ⟨by rw [h1, HD.out.2], 0, #[], by rw [h2, grow_empty]; rfl⟩
            clear kH g4
            go_wp2_with fail
            refine wp_region_quiet_grown (by assumption) (by kernel_rfl) ?_
            repeat (go_big_quiet_step (first | (go_at_call 13; with_reducible refine Calls.grown_of (kE _ _)) | (go_at_call 16; with_reducible refine Calls.grown_of (kC _ _)) | (go_at_call 17; with_reducible refine Calls.grown_of (kB1 _ _)) | (go_at_call 17; with_reducible refine Calls.grown_of (kB2 _ _))))
            refine wpQuiet_nil ?_
            intro Y hw'
            obtain ⟨⟨nq, osq⟩, hw''⟩ := hw'
            have HG6 : Hid (Grows w2 Y) := HG4.out.trans ⟨nq, osq, hw''⟩
            clear hw'' kE kC kB1 kB2
            go_wp2_with fail
            go_roundg (nl - ((k + 1) + 1))
            case measure => omega
            case rel => exact ⟨(k + 1) + 1, c, by go_num, by go_num, by omega, Nat.le_refl _, by omega, HT.out, HG6.out⟩
      · have hltz : ¬ (i : Int) < (nl : Int) := by omega
        rcases Nat.eq_zero_or_pos nl with hz | hp
        · subst hz
          have kHs := fun nq => holds_any (wr.drewN nq) (F, T) t
          have hcs : c = if F ≤ t ∧ t < T then 1 else 0 := by
            rw [← HCt.out.count t, HCn.out, List.take_of_length_le (by have := HN.out; omega)]
          have hhs : hol (F, T) t = decide (F ≤ t ∧ t < T) := by unfold hol; simp
          simp only at kHs
          rw [hhs] at kHs
          have HC0 : Hid _ := hcs
          clear hcs hhs
          by_cases hin2 : F ≤ t ∧ t < T
          · have hc1 : c = 1 := by rw [HC0.out, if_pos hin2]
            omega
          · have hc1 : c = 0 := by rw [HC0.out, if_neg hin2]
            rw [decide_eq_false hin2] at kHs
            subst hc1
            clear hin2
            go_wp2_with fail
            go_quiet (fail)
            go_wp2_with fail
            refine (kHs _).mono ?_
            rintro e w7 ⟨rfl, g7⟩
            have HB7 : Hid (Below w.heap.size w w7) := HB2.out.trans (((HG.out.trans (Grows.drewN _ _)).trans g7).below.mono HB2.out.size)
            clear kHs g7
            go_wp2_with fail
            go_ret
            exact ⟨rfl, HB7.out⟩
        · obtain ⟨k, rfl⟩ : ∃ k, nl = k + 1 := ⟨nl - 1, by omega⟩
          have hr := HRl.out.below HG.out.below
          obtain ⟨-, -, -, hk⟩ := hr.at
          obtain ⟨b, off, rfl, hcl⟩ := hk (by have := HN.out; omega)
          have hl0 := HCt.out.head (by have := HN.out; omega)
          have hll := HCt.out.last (by have := HN.out; omega)
          have q0 := (hcl 0 (by have := HN.out; omega)).1
          have q1 := (hcl k (by have := HN.out; omega)).2
          rw [hl0] at q0
          have hll' : (l[k]'(by have := HN.out; omega)).2 = T := by
            rw [← hll]
            congr 2
            have := HN.out; omega
          rw [hll'] at q1
          have q0' : wr.cell? ⟨b, off, none⟩ = some (.int .i64 F) := by simpa using q0
          have hkd : decide (0 < k + 1) = true := by simp
          have hkl : (k : Int) < ((k + 1 : Nat) : Int) := by omega
          clear hr hk hcl hl0 hll hll' q0
          have kHs := fun nq => holds_any (wr.drewN nq) (F, T) t
          have hcs : c = if F ≤ t ∧ t < T then 1 else 0 := by
            rw [← HCt.out.count t, HCn.out, List.take_of_length_le (by have := HN.out; omega)]
          have hhs : hol (F, T) t = decide (F ≤ t ∧ t < T) := by unfold hol; simp
          simp only at kHs
          rw [hhs] at kHs
          have HC0 : Hid _ := hcs
          clear hcs hhs
          by_cases hin2 : F ≤ t ∧ t < T
          · have hc1 : c = 1 := by rw [HC0.out, if_pos hin2]
            rw [decide_eq_true hin2] at kHs
            subst hc1
            clear hin2
            go_wp2_with fail
            go_quiet (fail)
            go_wp2_with fail
            refine (kHs _).mono ?_
            rintro e w7 ⟨rfl, g7⟩
            have HB7 : Hid (Below w.heap.size w w7) := HB2.out.trans (((HG.out.trans (Grows.drewN _ _)).trans g7).below.mono HB2.out.size)
            clear kHs g7
            go_wp2_with fail
            go_ret
            exact ⟨rfl, HB7.out⟩
          · have hc1 : c = 0 := by rw [HC0.out, if_neg hin2]
            rw [decide_eq_false hin2] at kHs
            subst hc1
            clear hin2
            go_wp2_with fail
            go_quiet (fail)
            go_wp2_with fail
            refine (kHs _).mono ?_
            rintro e w7 ⟨rfl, g7⟩
            have HB7 : Hid (Below w.heap.size w w7) := HB2.out.trans (((HG.out.trans (Grows.drewN _ _)).trans g7).below.mono HB2.out.size)
            clear kHs g7
            go_wp2_with fail
            go_ret
            exact ⟨rfl, HB7.out⟩
end Go.Proofs.Ythijbpodkklcnaa
