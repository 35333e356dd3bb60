/- Contract: goOn. -/
import Derived.Test.YtgbmigfamefenaaGoO
import Derived.Laws.StructEq
namespace Go.Proofs.Ytgbmigfamefenaa
open Go.Shelf Go.RowKit Go.Maps Go.Sort
set_option linter.unusedVariables false

theorem belG {base : Nat} {w w2 w5 : World} {R : Option Nat} (h : Below base w w2) (hb : base ≤ w2.heap.size) (g : w2.grownBy w5 R) (hR : ∀ r, R = some r → base ≤ r) : Below base w w5 :=
  h.trans ⟨g.os, g.tape, g.output, g.size, fun i hi => g.block i (by omega) fun q => by have := hR i q.symm; omega⟩
theorem owns_below1 {w w1 : World} {base : Nat} {v : Value} {l : List S3} (h : OwS w base v l) (hB : Below w.heap.size w w1) : OwS w1 base v l := owns_block h fun r hr => hB.block r (own_lt h r hr).2
theorem nw_below {w w2 : World} {R : Option Nat} {v : Value} (h : Below w.heap.size w w2) (n : Nw w2 R v) : Nw w R v := by
  rcases n with q | ⟨g, q1, q2⟩
  · exact .inl q
  · exact .inr ⟨g, q1, Nat.le_trans h.size q2⟩
set_option maxRecDepth 100000 in
set_option maxHeartbeats 3200000 in
theorem goOn_none (w : World) (base : Nat) (v : Value) (k : K3) (a b : Int) (h : OwS w base v []) (hb : base ≤ w.heap.size) :
    Calls Try.prog 45 #[v, kv k, .agg #[.int .i64 a, .int .i64 b]] w fun e w' => ∃ v', e = .returned v' ∧ OwS w' base v' [(k, a, b)] ∧ Below base w w' ∧ w.grownBy w' v.ownBlock ∧ Nw w v.ownBlock v' := by
  have mixed : Try.prog.follows .mixedOrders = true := by kernel_rfl
  obtain ⟨i0, hi0, hi1, hi2, hi3⟩ := info_parts Try.info_stretch
  obtain ⟨ao, cap, hv⟩ : ∃ ao cap, v = .slice ao 0 cap := by
    rcases h.2 with ⟨h1, _⟩ | ⟨g, cap, cur, h1, _⟩
    · exact ⟨_, _, h1⟩
    · exact ⟨_, _, h1⟩
  obtain ⟨k1, k2, k3⟩ := k
  unfold kv
  simp only
  obtain ⟨w1, hw1⟩ : ∃ w1, w1 = (w.alloc (.cells #[.int .i64 k1, .int .i64 k2, .int .i64 k3] 55)).alloc (.cells #[.int .i64 a, .int .i64 b] 24) := ⟨_, rfl⟩
  have hs : (w.alloc (.cells #[.int .i64 k1, .int .i64 k2, .int .i64 k3] 55)).heap.size = w.heap.size + 1 := by simp
  have hsz : w1.heap.size = w.heap.size + 2 := by rw [hw1]; simp
  have hB1 : Below w.heap.size w w1 := by rw [hw1]; exact ((Below.refl w.heap.size w).alloc (Nat.le_refl _) _).alloc (by rw [hs]; omega) _
  have hbk : BxA w1 w.heap.size 55 #[.int .i64 k1, .int .i64 k2, .int .i64 k3] := by
    rw [hw1]
    unfold BxA
    rw [Below.heap_alloc _ _ _ (by rw [hs]; omega)]
    exact BxA.new _ _ _
  have hbs : BxA w1 (w.heap.size + 1) 24 #[.int .i64 a, .int .i64 b] := by
    rw [hw1, ← hs]
    exact BxA.new _ _ _
  have x0 := fun nq os => gro_cell (hbk.cell 0 _ rfl) nq os
  have x1 := fun nq os => gro_cell (hbk.cell 1 _ rfl) nq os
  have x2 := fun nq os => gro_cell (hbk.cell 2 _ rfl) nq os
  have y0 := fun nq os => gro_cell (hbs.cell 0 _ rfl) nq os
  have y1 := fun nq os => gro_cell (hbs.cell 1 _ rfl) nq os
  have HO : Hid (∀ V, Below w.heap.size w V → V.ownsRow base 57 5 v 0 []) := by
    apply hide
    intro V hV
    exact owns_block h fun r hr => hV.block r (own_lt h r hr).2
  have HB1 := hide hB1
  have HW1 := hide hw1
  subst hv
  clear hs hbk hbs h hB1 hw1
  go_enter Try.func45, Try.ntmps45
  go_wp2_with fail
  rw [← HW1.out]
  refine wp_region_quiet_grown (by assumption) (by kernel_rfl) ?_
  repeat (go_big_quiet_step (first | fail))
  refine wpQuiet_nil ?_
  intro V hw'
  obtain ⟨⟨nq, osq⟩, hw''⟩ := hw'
  have x0' := x0 nq osq
  have x1' := x1 nq osq
  have x2' := x2 nq osq
  have y0' := y0 nq osq
  have y1' := y1 nq osq
  have HV := hide (gro_below w1 nq osq)
  rw [← hw''] at x0' x1' x2' y0' y1' HV
  clear hw'' x0 x1 x2 y0 y1
  obtain ⟨W2, hW2⟩ : ∃ W2, W2 = V.alloc (.cells #[.int .i64 k1, .int .i64 k2, .int .i64 k3, .int .i64 a, .int .i64 b] 57) := ⟨_, rfl⟩
  have HBV : Hid (Below w.heap.size w V) := by apply hide; exact HB1.out.trans (HV.out.mono (by omega))
  have HB2 : Hid (Below w.heap.size w W2) := by apply hide; rw [hW2]; exact HBV.out.alloc HBV.out.size _
  have HL : Hid (RdsK 5 W2 (.slice (some ⟨V.heap.size, 0, none⟩) 1 1) 1 [.int .i64 k1, .int .i64 k2, .int .i64 k3, .int .i64 a, .int .i64 b]) := by
    apply hide
    rw [hW2]
    exact RdsK.of_own (lit_ownK _ [.int .i64 k1, .int .i64 k2, .int .i64 k3, .int .i64 a, .int .i64 b] 57 1 5 rfl (by simp [maxLen]))
  have HW2 := hide hW2
  have hsz2 : base ≤ W2.heap.size := Nat.le_trans hb HB2.out.size
  clear hW2
  go_wp2_with (first | (at_builtin; rw [← HW2.out]; refine wpList_appF rfl _ _ 50 rfl base 57 i0 (.agg #[.int .i64 0, .int .i64 0, .int .i64 0, .int .i64 0, .int .i64 0]) 5 40 Try.underlying50 hi0 hi1 hi2 hi3 rfl (by decide) (.slice ao 0 cap) (0) ([]) rfl (HO.out W2 HB2.out) (.slice (some ⟨V.heap.size, 0, none⟩) 1 1) 1 [.int .i64 k1, .int .i64 k2, .int .i64 k3, .int .i64 a, .int .i64 b] rfl HL.out (fun u hu => by simp at hu; rcases hu with rfl | rfl | rfl | rfl | rfl <;> rfl) (by unfold maxLen; omega) (by omega) hsz2 ?_; intro v5 w5 o5 g5 n5; have H5 := hide (And.intro o5 (And.intro g5 n5)); clear o5 g5 n5))
  go_ret
  obtain ⟨o5, g5, n5⟩ := H5.out
  refine ⟨_, rfl, ?_, ?_, grown_trans (grown_of_below HB2.out _) g5, nw_below HB2.out n5⟩
  · exact o5
  · exact belG (HB2.out.mono hb) hsz2 g5 fun r hr => (own_lt (HO.out W2 HB2.out) r hr).1
set_option maxRecDepth 100000 in
set_option maxHeartbeats 3200000 in
theorem goOn_long (w : World) (base : Nat) (v : Value) (l : List S3) (s : S3) (k : K3) (a b : Int) (h : OwS w base v (l ++ [s])) (hlen : l.length ≤ 200000) (hsk : s.1 = k) (hb : base ≤ w.heap.size) :
    Calls Try.prog 45 #[v, kv k, .agg #[.int .i64 a, .int .i64 b]] w fun e w' => ∃ v', e = .returned v' ∧ OwS w' base v' (l ++ [(k, s.2.1, b)]) ∧ Below base w w' ∧ w.grownBy w' v.ownBlock ∧ Nw w v.ownBlock v' := by
  have mixed : Try.prog.follows .mixedOrders = true := by kernel_rfl
  obtain ⟨i0, hi0, hi1, hi2, hi3⟩ := info_parts Try.info_stretch
  obtain ⟨k1, k2, k3⟩ := k
  unfold kv
  simp only
  obtain ⟨w1, hw1⟩ : ∃ w1, w1 = (w.alloc (.cells #[.int .i64 k1, .int .i64 k2, .int .i64 k3] 55)).alloc (.cells #[.int .i64 a, .int .i64 b] 24) := ⟨_, rfl⟩
  have hs : (w.alloc (.cells #[.int .i64 k1, .int .i64 k2, .int .i64 k3] 55)).heap.size = w.heap.size + 1 := by simp
  have hsz : w1.heap.size = w.heap.size + 2 := by rw [hw1]; simp
  have hB1 : Below w.heap.size w w1 := by rw [hw1]; exact ((Below.refl w.heap.size w).alloc (Nat.le_refl _) _).alloc (by rw [hs]; omega) _
  have hbk : BxA w1 w.heap.size 55 #[.int .i64 k1, .int .i64 k2, .int .i64 k3] := by
    rw [hw1]
    unfold BxA
    rw [Below.heap_alloc _ _ _ (by rw [hs]; omega)]
    exact BxA.new _ _ _
  have hbs : BxA w1 (w.heap.size + 1) 24 #[.int .i64 a, .int .i64 b] := by
    rw [hw1, ← hs]
    exact BxA.new _ _ _
  have x0 := fun nq os => gro_cell (hbk.cell 0 _ rfl) nq os
  have x1 := fun nq os => gro_cell (hbk.cell 1 _ rfl) nq os
  have x2 := fun nq os => gro_cell (hbk.cell 2 _ rfl) nq os
  have y0 := fun nq os => gro_cell (hbs.cell 0 _ rfl) nq os
  have y1 := fun nq os => gro_cell (hbs.cell 1 _ rfl) nq os
  obtain ⟨g, cap, hv, hcap, hbg, hgw, hcell, hfro, hset⟩ := OwS.long (owns_below1 h hB1)
  obtain ⟨⟨p1, p2, p3⟩, sa, sb⟩ := s
  have z0 := fun nq os => gro_cell (hcell 0 _ rfl) nq os
  have z1 := fun nq os => gro_cell (hcell 1 _ rfl) nq os
  have z2 := fun nq os => gro_cell (hcell 2 _ rfl) nq os
  obtain ⟨n, hn⟩ : ∃ n, n = l.length := ⟨_, rfl⟩
  simp only [← hn, Nat.add_zero] at hv hcap z0 z1 z2 hlen
  have HN := hide hn
  have HB1 := hide hB1
  have HW1 := hide hw1
  subst hv
  cases hsk
  clear hs hbk hbs hB1 hw1 hn
  go_enter Try.func45, Try.ntmps45
  go_wp2_with fail
  rw [← HW1.out]
  refine wp_region_quiet_grown (by assumption) (by kernel_rfl) ?_
  repeat (go_big_quiet_step (first | fail))
  refine wpQuiet_nil ?_
  intro V hw'
  obtain ⟨⟨nq, osq⟩, hw''⟩ := hw'
  have x0' := x0 nq osq
  have x1' := x1 nq osq
  have x2' := x2 nq osq
  have y0' := y0 nq osq
  have y1' := y1 nq osq
  have HV := hide (gro_below w1 nq osq)
  rw [← hw''] at x0' x1' x2' y0' y1' HV
  clear hw'' x0 x1 x2 y0 y1 z0 z1 z2
  have HBV : Hid (Below w.heap.size w V) := by apply hide; exact HB1.out.trans (HV.out.mono (by omega))
  obtain ⟨g', cap', hv', _, hbg', hgw', hcell', hfro', hset'⟩ := OwS.long (owns_below1 h HBV.out)
  cases hv'
  rw [← HN.out] at hfro' hset'
  have HS := hide hset'
  have hc4 := hcell' 4 _ rfl
  rw [← HN.out] at hc4
  clear hset' hcell'
  go_wp2_with fail
  go_ret
  exact ⟨_, rfl, HS.out b, (HBV.out.mono hb).setCell hbg' _, grown_trans (grown_of_below HBV.out _) grown_setCell, .inl rfl⟩
set_option maxRecDepth 100000 in
set_option maxHeartbeats 3200000 in
theorem goOn_o1 (w : World) (base : Nat) (v : Value) (l : List S3) (s : S3) (k : K3) (a b : Int) (h : OwS w base v (l ++ [s])) (hlen : l.length ≤ 200000) (hsk : ¬ s.1.1 = k.1) (hb : base ≤ w.heap.size) :
    Calls Try.prog 45 #[v, kv k, .agg #[.int .i64 a, .int .i64 b]] w fun e w' => ∃ v', e = .returned v' ∧ OwS w' base v' (l ++ [s] ++ [(k, a, b)]) ∧ Below base w w' ∧ w.grownBy w' v.ownBlock ∧ Nw w v.ownBlock v' := by
  have mixed : Try.prog.follows .mixedOrders = true := by kernel_rfl
  obtain ⟨i0, hi0, hi1, hi2, hi3⟩ := info_parts Try.info_stretch
  obtain ⟨k1, k2, k3⟩ := k
  unfold kv
  simp only
  obtain ⟨w1, hw1⟩ : ∃ w1, w1 = (w.alloc (.cells #[.int .i64 k1, .int .i64 k2, .int .i64 k3] 55)).alloc (.cells #[.int .i64 a, .int .i64 b] 24) := ⟨_, rfl⟩
  have hs : (w.alloc (.cells #[.int .i64 k1, .int .i64 k2, .int .i64 k3] 55)).heap.size = w.heap.size + 1 := by simp
  have hsz : w1.heap.size = w.heap.size + 2 := by rw [hw1]; simp
  have hB1 : Below w.heap.size w w1 := by rw [hw1]; exact ((Below.refl w.heap.size w).alloc (Nat.le_refl _) _).alloc (by rw [hs]; omega) _
  have hbk : BxA w1 w.heap.size 55 #[.int .i64 k1, .int .i64 k2, .int .i64 k3] := by
    rw [hw1]
    unfold BxA
    rw [Below.heap_alloc _ _ _ (by rw [hs]; omega)]
    exact BxA.new _ _ _
  have hbs : BxA w1 (w.heap.size + 1) 24 #[.int .i64 a, .int .i64 b] := by
    rw [hw1, ← hs]
    exact BxA.new _ _ _
  have x0 := fun nq os => gro_cell (hbk.cell 0 _ rfl) nq os
  have x1 := fun nq os => gro_cell (hbk.cell 1 _ rfl) nq os
  have x2 := fun nq os => gro_cell (hbk.cell 2 _ rfl) nq os
  have y0 := fun nq os => gro_cell (hbs.cell 0 _ rfl) nq os
  have y1 := fun nq os => gro_cell (hbs.cell 1 _ rfl) nq os
  obtain ⟨g, cap, hv, hcap, hbg, hgw, hcell, hfro, hset⟩ := OwS.long (owns_below1 h hB1)
  obtain ⟨⟨p1, p2, p3⟩, sa, sb⟩ := s
  have z0 := fun nq os => gro_cell (hcell 0 _ rfl) nq os
  have z1 := fun nq os => gro_cell (hcell 1 _ rfl) nq os
  have z2 := fun nq os => gro_cell (hcell 2 _ rfl) nq os
  obtain ⟨n, hn⟩ : ∃ n, n = l.length := ⟨_, rfl⟩
  simp only [← hn, Nat.add_zero] at hv hcap z0 z1 z2 hlen
  have HN := hide hn
  have HO : Hid (∀ V, Below w.heap.size w V → V.ownsRow base 57 5 v (n + 1) (scs (l ++ [((p1, p2, p3), sa, sb)]))) := by
    apply hide
    intro V hV
    have := owns_below1 h hV
    unfold OwS at this
    rw [List.length_append, ← hn] at this
    exact this
  have HB1 := hide hB1
  have HW1 := hide hw1
  subst hv
  have hne : ¬ p1 = k1 := hsk
  clear hsk
  clear hs hbk hbs hB1 hw1 hn
  go_enter Try.func45, Try.ntmps45
  go_wp2_with fail
  rw [← HW1.out]
  refine wp_region_quiet_grown (by assumption) (by kernel_rfl) ?_
  repeat (go_big_quiet_step (first | fail))
  refine wpQuiet_nil ?_
  intro V hw'
  obtain ⟨⟨nq, osq⟩, hw''⟩ := hw'
  have x0' := x0 nq osq
  have x1' := x1 nq osq
  have x2' := x2 nq osq
  have y0' := y0 nq osq
  have y1' := y1 nq osq
  have HV := hide (gro_below w1 nq osq)
  rw [← hw''] at x0' x1' x2' y0' y1' HV
  clear hw'' x0 x1 x2 y0 y1 z0 z1 z2
  obtain ⟨W2, hW2⟩ : ∃ W2, W2 = V.alloc (.cells #[.int .i64 k1, .int .i64 k2, .int .i64 k3, .int .i64 a, .int .i64 b] 57) := ⟨_, rfl⟩
  have HBV : Hid (Below w.heap.size w V) := by apply hide; exact HB1.out.trans (HV.out.mono (by omega))
  have HB2 : Hid (Below w.heap.size w W2) := by apply hide; rw [hW2]; exact HBV.out.alloc HBV.out.size _
  have HL : Hid (RdsK 5 W2 (.slice (some ⟨V.heap.size, 0, none⟩) 1 1) 1 [.int .i64 k1, .int .i64 k2, .int .i64 k3, .int .i64 a, .int .i64 b]) := by
    apply hide
    rw [hW2]
    exact RdsK.of_own (lit_ownK _ [.int .i64 k1, .int .i64 k2, .int .i64 k3, .int .i64 a, .int .i64 b] 57 1 5 rfl (by simp [maxLen]))
  have HW2 := hide hW2
  have hsz2 : base ≤ W2.heap.size := Nat.le_trans hb HB2.out.size
  clear hW2
  go_wp2_with (first | (at_builtin; rw [← HW2.out]; refine wpList_appF rfl _ _ 50 rfl base 57 i0 (.agg #[.int .i64 0, .int .i64 0, .int .i64 0, .int .i64 0, .int .i64 0]) 5 40 Try.underlying50 hi0 hi1 hi2 hi3 rfl (by decide) (.slice (some ⟨g, 0, none⟩) (n + 1) cap) (n + 1) (scs (l ++ [((p1, p2, p3), sa, sb)])) rfl (HO.out W2 HB2.out) (.slice (some ⟨V.heap.size, 0, none⟩) 1 1) 1 [.int .i64 k1, .int .i64 k2, .int .i64 k3, .int .i64 a, .int .i64 b] rfl HL.out (fun u hu => by simp at hu; rcases hu with rfl | rfl | rfl | rfl | rfl <;> rfl) (by unfold maxLen; omega) (by omega) hsz2 ?_; intro v5 w5 o5 g5 n5; have H5 := hide (And.intro o5 (And.intro g5 n5)); clear o5 g5 n5))
  go_ret
  obtain ⟨o5, g5, n5⟩ := H5.out
  refine ⟨_, rfl, ?_, ?_, grown_trans (grown_of_below HB2.out _) g5, nw_below HB2.out n5⟩
  · unfold OwS
    rw [List.length_append, List.length_append, ← HN.out, scs_append]
    exact o5
  · exact belG (HB2.out.mono hb) hsz2 g5 fun r hr => (own_lt (HO.out W2 HB2.out) r hr).1
set_option maxRecDepth 100000 in
set_option maxHeartbeats 3200000 in
theorem goOn_o2 (w : World) (base : Nat) (v : Value) (l : List S3) (s : S3) (k : K3) (a b : Int) (h : OwS w base v (l ++ [s])) (hlen : l.length ≤ 200000) (hsk0 : s.1.1 = k.1) (hsk : ¬ s.1.2.1 = k.2.1) (hb : base ≤ w.heap.size) :
    Calls Try.prog 45 #[v, kv k, .agg #[.int .i64 a, .int .i64 b]] w fun e w' => ∃ v', e = .returned v' ∧ OwS w' base v' (l ++ [s] ++ [(k, a, b)]) ∧ Below base w w' ∧ w.grownBy w' v.ownBlock ∧ Nw w v.ownBlock v' := by
  have mixed : Try.prog.follows .mixedOrders = true := by kernel_rfl
  obtain ⟨i0, hi0, hi1, hi2, hi3⟩ := info_parts Try.info_stretch
  obtain ⟨k1, k2, k3⟩ := k
  unfold kv
  simp only
  obtain ⟨w1, hw1⟩ : ∃ w1, w1 = (w.alloc (.cells #[.int .i64 k1, .int .i64 k2, .int .i64 k3] 55)).alloc (.cells #[.int .i64 a, .int .i64 b] 24) := ⟨_, rfl⟩
  have hs : (w.alloc (.cells #[.int .i64 k1, .int .i64 k2, .int .i64 k3] 55)).heap.size = w.heap.size + 1 := by simp
  have hsz : w1.heap.size = w.heap.size + 2 := by rw [hw1]; simp
  have hB1 : Below w.heap.size w w1 := by rw [hw1]; exact ((Below.refl w.heap.size w).alloc (Nat.le_refl _) _).alloc (by rw [hs]; omega) _
  have hbk : BxA w1 w.heap.size 55 #[.int .i64 k1, .int .i64 k2, .int .i64 k3] := by
    rw [hw1]
    unfold BxA
    rw [Below.heap_alloc _ _ _ (by rw [hs]; omega)]
    exact BxA.new _ _ _
  have hbs : BxA w1 (w.heap.size + 1) 24 #[.int .i64 a, .int .i64 b] := by
    rw [hw1, ← hs]
    exact BxA.new _ _ _
  have x0 := fun nq os => gro_cell (hbk.cell 0 _ rfl) nq os
  have x1 := fun nq os => gro_cell (hbk.cell 1 _ rfl) nq os
  have x2 := fun nq os => gro_cell (hbk.cell 2 _ rfl) nq os
  have y0 := fun nq os => gro_cell (hbs.cell 0 _ rfl) nq os
  have y1 := fun nq os => gro_cell (hbs.cell 1 _ rfl) nq os
  obtain ⟨g, cap, hv, hcap, hbg, hgw, hcell, hfro, hset⟩ := OwS.long (owns_below1 h hB1)
  obtain ⟨⟨p1, p2, p3⟩, sa, sb⟩ := s
  have z0 := fun nq os => gro_cell (hcell 0 _ rfl) nq os
  have z1 := fun nq os => gro_cell (hcell 1 _ rfl) nq os
  have z2 := fun nq os => gro_cell (hcell 2 _ rfl) nq os
  obtain ⟨n, hn⟩ : ∃ n, n = l.length := ⟨_, rfl⟩
  simp only [← hn, Nat.add_zero] at hv hcap z0 z1 z2 hlen
  have HN := hide hn
  have HO : Hid (∀ V, Below w.heap.size w V → V.ownsRow base 57 5 v (n + 1) (scs (l ++ [((p1, p2, p3), sa, sb)]))) := by
    apply hide
    intro V hV
    have := owns_below1 h hV
    unfold OwS at this
    rw [List.length_append, ← hn] at this
    exact this
  have HB1 := hide hB1
  have HW1 := hide hw1
  subst hv
  have hne : ¬ p2 = k2 := hsk
  have ek0 : k1 = p1 := hsk0.symm
  subst ek0
  clear hsk
  clear hs hbk hbs hB1 hw1 hn
  go_enter Try.func45, Try.ntmps45
  go_wp2_with fail
  rw [← HW1.out]
  refine wp_region_quiet_grown (by assumption) (by kernel_rfl) ?_
  repeat (go_big_quiet_step (first | fail))
  refine wpQuiet_nil ?_
  intro V hw'
  obtain ⟨⟨nq, osq⟩, hw''⟩ := hw'
  have x0' := x0 nq osq
  have x1' := x1 nq osq
  have x2' := x2 nq osq
  have y0' := y0 nq osq
  have y1' := y1 nq osq
  have HV := hide (gro_below w1 nq osq)
  rw [← hw''] at x0' x1' x2' y0' y1' HV
  clear hw'' x0 x1 x2 y0 y1 z0 z1 z2
  obtain ⟨W2, hW2⟩ : ∃ W2, W2 = V.alloc (.cells #[.int .i64 k1, .int .i64 k2, .int .i64 k3, .int .i64 a, .int .i64 b] 57) := ⟨_, rfl⟩
  have HBV : Hid (Below w.heap.size w V) := by apply hide; exact HB1.out.trans (HV.out.mono (by omega))
  have HB2 : Hid (Below w.heap.size w W2) := by apply hide; rw [hW2]; exact HBV.out.alloc HBV.out.size _
  have HL : Hid (RdsK 5 W2 (.slice (some ⟨V.heap.size, 0, none⟩) 1 1) 1 [.int .i64 k1, .int .i64 k2, .int .i64 k3, .int .i64 a, .int .i64 b]) := by
    apply hide
    rw [hW2]
    exact RdsK.of_own (lit_ownK _ [.int .i64 k1, .int .i64 k2, .int .i64 k3, .int .i64 a, .int .i64 b] 57 1 5 rfl (by simp [maxLen]))
  have HW2 := hide hW2
  have hsz2 : base ≤ W2.heap.size := Nat.le_trans hb HB2.out.size
  clear hW2
  go_wp2_with (first | (at_builtin; rw [← HW2.out]; refine wpList_appF rfl _ _ 50 rfl base 57 i0 (.agg #[.int .i64 0, .int .i64 0, .int .i64 0, .int .i64 0, .int .i64 0]) 5 40 Try.underlying50 hi0 hi1 hi2 hi3 rfl (by decide) (.slice (some ⟨g, 0, none⟩) (n + 1) cap) (n + 1) (scs (l ++ [((k1, p2, p3), sa, sb)])) rfl (HO.out W2 HB2.out) (.slice (some ⟨V.heap.size, 0, none⟩) 1 1) 1 [.int .i64 k1, .int .i64 k2, .int .i64 k3, .int .i64 a, .int .i64 b] rfl HL.out (fun u hu => by simp at hu; rcases hu with rfl | rfl | rfl | rfl | rfl <;> rfl) (by unfold maxLen; omega) (by omega) hsz2 ?_; intro v5 w5 o5 g5 n5; have H5 := hide (And.intro o5 (And.intro g5 n5)); clear o5 g5 n5))
  go_ret
  obtain ⟨o5, g5, n5⟩ := H5.out
  refine ⟨_, rfl, ?_, ?_, grown_trans (grown_of_below HB2.out _) g5, nw_below HB2.out n5⟩
  · unfold OwS
    rw [List.length_append, List.length_append, ← HN.out, scs_append]
    exact o5
  · exact belG (HB2.out.mono hb) hsz2 g5 fun r hr => (own_lt (HO.out W2 HB2.out) r hr).1
set_option maxRecDepth 100000 in
set_option maxHeartbeats 3200000 in
theorem goOn_o3 (w : World) (base : Nat) (v : Value) (l : List S3) (s : S3) (k : K3) (a b : Int) (h : OwS w base v (l ++ [s])) (hlen : l.length ≤ 200000) (hsk0 : s.1.1 = k.1) (hsk1 : s.1.2.1 = k.2.1) (hsk : ¬ s.1.2.2 = k.2.2) (hb : base ≤ w.heap.size) :
    Calls Try.prog 45 #[v, kv k, .agg #[.int .i64 a, .int .i64 b]] w fun e w' => ∃ v', e = .returned v' ∧ OwS w' base v' (l ++ [s] ++ [(k, a, b)]) ∧ Below base w w' ∧ w.grownBy w' v.ownBlock ∧ Nw w v.ownBlock v' := by
  have mixed : Try.prog.follows .mixedOrders = true := by kernel_rfl
  obtain ⟨i0, hi0, hi1, hi2, hi3⟩ := info_parts Try.info_stretch
  obtain ⟨k1, k2, k3⟩ := k
  unfold kv
  simp only
  obtain ⟨w1, hw1⟩ : ∃ w1, w1 = (w.alloc (.cells #[.int .i64 k1, .int .i64 k2, .int .i64 k3] 55)).alloc (.cells #[.int .i64 a, .int .i64 b] 24) := ⟨_, rfl⟩
  have hs : (w.alloc (.cells #[.int .i64 k1, .int .i64 k2, .int .i64 k3] 55)).heap.size = w.heap.size + 1 := by simp
  have hsz : w1.heap.size = w.heap.size + 2 := by rw [hw1]; simp
  have hB1 : Below w.heap.size w w1 := by rw [hw1]; exact ((Below.refl w.heap.size w).alloc (Nat.le_refl _) _).alloc (by rw [hs]; omega) _
  have hbk : BxA w1 w.heap.size 55 #[.int .i64 k1, .int .i64 k2, .int .i64 k3] := by
    rw [hw1]
    unfold BxA
    rw [Below.heap_alloc _ _ _ (by rw [hs]; omega)]
    exact BxA.new _ _ _
  have hbs : BxA w1 (w.heap.size + 1) 24 #[.int .i64 a, .int .i64 b] := by
    rw [hw1, ← hs]
    exact BxA.new _ _ _
  have x0 := fun nq os => gro_cell (hbk.cell 0 _ rfl) nq os
  have x1 := fun nq os => gro_cell (hbk.cell 1 _ rfl) nq os
  have x2 := fun nq os => gro_cell (hbk.cell 2 _ rfl) nq os
  have y0 := fun nq os => gro_cell (hbs.cell 0 _ rfl) nq os
  have y1 := fun nq os => gro_cell (hbs.cell 1 _ rfl) nq os
  obtain ⟨g, cap, hv, hcap, hbg, hgw, hcell, hfro, hset⟩ := OwS.long (owns_below1 h hB1)
  obtain ⟨⟨p1, p2, p3⟩, sa, sb⟩ := s
  have z0 := fun nq os => gro_cell (hcell 0 _ rfl) nq os
  have z1 := fun nq os => gro_cell (hcell 1 _ rfl) nq os
  have z2 := fun nq os => gro_cell (hcell 2 _ rfl) nq os
  obtain ⟨n, hn⟩ : ∃ n, n = l.length := ⟨_, rfl⟩
  simp only [← hn, Nat.add_zero] at hv hcap z0 z1 z2 hlen
  have HN := hide hn
  have HO : Hid (∀ V, Below w.heap.size w V → V.ownsRow base 57 5 v (n + 1) (scs (l ++ [((p1, p2, p3), sa, sb)]))) := by
    apply hide
    intro V hV
    have := owns_below1 h hV
    unfold OwS at this
    rw [List.length_append, ← hn] at this
    exact this
  have HB1 := hide hB1
  have HW1 := hide hw1
  subst hv
  have hne : ¬ p3 = k3 := hsk
  have ek0 : k1 = p1 := hsk0.symm
  subst ek0
  have ek1 : k2 = p2 := hsk1.symm
  subst ek1
  clear hsk
  clear hs hbk hbs hB1 hw1 hn
  go_enter Try.func45, Try.ntmps45
  go_wp2_with fail
  rw [← HW1.out]
  refine wp_region_quiet_grown (by assumption) (by kernel_rfl) ?_
  repeat (go_big_quiet_step (first | fail))
  refine wpQuiet_nil ?_
  intro V hw'
  obtain ⟨⟨nq, osq⟩, hw''⟩ := hw'
  have x0' := x0 nq osq
  have x1' := x1 nq osq
  have x2' := x2 nq osq
  have y0' := y0 nq osq
  have y1' := y1 nq osq
  have HV := hide (gro_below w1 nq osq)
  rw [← hw''] at x0' x1' x2' y0' y1' HV
  clear hw'' x0 x1 x2 y0 y1 z0 z1 z2
  obtain ⟨W2, hW2⟩ : ∃ W2, W2 = V.alloc (.cells #[.int .i64 k1, .int .i64 k2, .int .i64 k3, .int .i64 a, .int .i64 b] 57) := ⟨_, rfl⟩
  have HBV : Hid (Below w.heap.size w V) := by apply hide; exact HB1.out.trans (HV.out.mono (by omega))
  have HB2 : Hid (Below w.heap.size w W2) := by apply hide; rw [hW2]; exact HBV.out.alloc HBV.out.size _
  have HL : Hid (RdsK 5 W2 (.slice (some ⟨V.heap.size, 0, none⟩) 1 1) 1 [.int .i64 k1, .int .i64 k2, .int .i64 k3, .int .i64 a, .int .i64 b]) := by
    apply hide
    rw [hW2]
    exact RdsK.of_own (lit_ownK _ [.int .i64 k1, .int .i64 k2, .int .i64 k3, .int .i64 a, .int .i64 b] 57 1 5 rfl (by simp [maxLen]))
  have HW2 := hide hW2
  have hsz2 : base ≤ W2.heap.size := Nat.le_trans hb HB2.out.size
  clear hW2
  go_wp2_with (first | (at_builtin; rw [← HW2.out]; refine wpList_appF rfl _ _ 50 rfl base 57 i0 (.agg #[.int .i64 0, .int .i64 0, .int .i64 0, .int .i64 0, .int .i64 0]) 5 40 Try.underlying50 hi0 hi1 hi2 hi3 rfl (by decide) (.slice (some ⟨g, 0, none⟩) (n + 1) cap) (n + 1) (scs (l ++ [((k1, k2, p3), sa, sb)])) rfl (HO.out W2 HB2.out) (.slice (some ⟨V.heap.size, 0, none⟩) 1 1) 1 [.int .i64 k1, .int .i64 k2, .int .i64 k3, .int .i64 a, .int .i64 b] rfl HL.out (fun u hu => by simp at hu; rcases hu with rfl | rfl | rfl | rfl | rfl <;> rfl) (by unfold maxLen; omega) (by omega) hsz2 ?_; intro v5 w5 o5 g5 n5; have H5 := hide (And.intro o5 (And.intro g5 n5)); clear o5 g5 n5))
  go_ret
  obtain ⟨o5, g5, n5⟩ := H5.out
  refine ⟨_, rfl, ?_, ?_, grown_trans (grown_of_below HB2.out _) g5, nw_below HB2.out n5⟩
  · unfold OwS
    rw [List.length_append, List.length_append, ← HN.out, scs_append]
    exact o5
  · exact belG (HB2.out.mono hb) hsz2 g5 fun r hr => (own_lt (HO.out W2 HB2.out) r hr).1
theorem goOn_any (w : World) (base : Nat) (v : Value) (out : List S3) (k : K3) (a b : Int) (h : OwS w base v out) (hb : base ≤ w.heap.size) (hlen : out.length ≤ 200000) :
    Calls Try.prog 45 #[v, kv k, .agg #[.int .i64 a, .int .i64 b]] w fun e w' => ∃ v', e = .returned v' ∧ OwS w' base v' (goF out k a b) ∧ Below base w w' ∧ w.grownBy w' v.ownBlock ∧ Nw w v.ownBlock v' := by
  by_cases hn : out = []
  · subst hn
    exact goOn_none w base v k a b h hb
  · obtain ⟨l, s, rfl⟩ := row_last out hn
    have hl : l.length ≤ 200000 := by simp at hlen; omega
    rw [goF_last]
    by_cases q : s.1 = k
    · rw [if_pos q, q]
      exact goOn_long w base v l s k a b h hl q hb
    · rw [if_neg q]
      by_cases q1 : s.1.1 = k.1
      · by_cases q2 : s.1.2.1 = k.2.1
        · exact goOn_o3 w base v l s k a b h hl q1 q2 (fun q3 => q (Prod.ext q1 (Prod.ext q2 q3))) hb
        · exact goOn_o2 w base v l s k a b h hl q1 q2 hb
      · exact goOn_o1 w base v l s k a b h hl q1 hb
end Go.Proofs.Ytgbmigfamefenaa
