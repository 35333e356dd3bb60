/- The start-up law awake: it answers true, and what it makes lies in new memory. -/
import Derived.Test.YtnkllgpibmofiaaNtd
import Derived.Test.YtnkllgpibmofiaaSn5
namespace Go.Proofs.Ytnkllgpibmofiaa
open Go.RowKit Go.Maps Go.Sort
set_option linter.unusedVariables false

theorem sub_of (M : Array Value) (o : Nat) (cs : List Value) (h : (M.toList.drop o).take cs.length = cs) : sub M o cs := fun j v hj => by
  rw [← h, List.getElem?_take] at hj
  split at hj
  · rw [List.getElem?_drop, Array.getElem?_toList] at hj
    exact hj
  · cases hj
/-- A message of a kind and an Ask alone. -/
theorem pl_kind (k a : Int) : Pl (List.toArray ((Value.int .i64 k) :: (Value.int .i64 0) :: (Value.int .i64 0) :: (Value.int .u64 0) :: (Value.int .u64 a) :: (Value.int .u64 0) :: (Value.int .i64 0) :: (Value.int .u64 0) :: (Value.int .i64 0) :: (Value.int .i64 0) :: (Value.slice none 0 0) :: (Value.slice none 0 0) :: (Value.int .i64 0) :: (Value.int .i64 0) :: (Value.int .i64 0) :: (Value.int .i64 0) :: (Value.slice none 0 0) :: (Value.int .i64 0) :: (Value.int .i64 0) :: (Value.slice none 0 0) :: (Value.int .i64 0) :: (Value.slice none 0 0) :: (Value.slice none 0 0) :: (Value.int .i64 0) :: (Value.int .i64 0) :: (Value.int .i64 0) :: (Value.int .i64 0) :: (Value.int .i64 0) :: (Value.int .i64 0) :: (Value.int .i64 0) :: (Value.int .i64 0) :: (Value.int .i64 0) :: (Value.bool false) :: (Value.int .i64 0) :: (Value.int .i64 0) :: (Value.int .i64 0) :: (Value.int .i64 0) :: (Value.int .i64 0) :: (Value.int .i64 0) :: (Value.slice none 0 0) :: (Value.slice none 0 0) :: [])) :=
  ⟨rfl, all_oneCell_toArray (List.all_eq_true.1 rfl), ⟨0, sub_of _ _ _ rfl⟩, ⟨0, 0, 0, 0, 0, 0, 0, 0, 0, sub_of _ _ _ rfl⟩, rfl, rfl⟩
set_option maxRecDepth 20000 in
set_option maxHeartbeats 4000000 in
theorem awake_any (w : World) : Calls Try.prog 8 #[] w fun e w' => e = .returned (.bool true) ∧ Below w.heap.size w w' := by
  go_enter Try.func8, Try.ntmps8
  go_wp2_with fail
  go_at_call 9
  refine (netNew_any w).mono ?_
  rintro e w1 ⟨he1, hn1, hb1⟩
  subst he1
  have HN1 := hide hn1
  have HB1 := hide hb1
  obtain ⟨n, hn⟩ : ∃ n, n = w.heap.size := ⟨_, rfl⟩
  have HNN := hide hn
  rw [← hn]
  clear hn1 hb1 hn
  go_wp2_with fail
  obtain ⟨M1, hM1, hp1, hk1⟩ : ∃ M1, M1 = (List.toArray ((Value.int .i64 7) :: (Value.int .i64 0) :: (Value.int .i64 0) :: (Value.int .u64 0) :: (Value.int .u64 0) :: (Value.int .u64 0) :: (Value.int .i64 0) :: (Value.int .u64 0) :: (Value.int .i64 0) :: (Value.int .i64 0) :: (Value.slice none 0 0) :: (Value.slice none 0 0) :: (Value.int .i64 0) :: (Value.int .i64 0) :: (Value.int .i64 0) :: (Value.int .i64 0) :: (Value.slice none 0 0) :: (Value.int .i64 0) :: (Value.int .i64 0) :: (Value.slice none 0 0) :: (Value.int .i64 0) :: (Value.slice none 0 0) :: (Value.slice none 0 0) :: (Value.int .i64 0) :: (Value.int .i64 0) :: (Value.int .i64 0) :: (Value.int .i64 0) :: (Value.int .i64 0) :: (Value.int .i64 0) :: (Value.int .i64 0) :: (Value.int .i64 0) :: (Value.int .i64 0) :: (Value.bool false) :: (Value.int .i64 0) :: (Value.int .i64 0) :: (Value.int .i64 0) :: (Value.int .i64 0) :: (Value.int .i64 0) :: (Value.int .i64 0) :: (Value.slice none 0 0) :: (Value.slice none 0 0) :: [])) ∧ Pl M1 ∧ M1[0]? = some (.int .i64 7) := ⟨_, rfl, pl_kind 7 0, rfl⟩
  rw [← hM1]
  clear hM1
  have HP1 := hide hp1
  have HK1 := hide hk1
  clear hp1 hk1
  -- Send, Send
  go_at_call 13
  refine (send_any w1 n 0 _ _ [] M1 (by rw [HNN.out]; exact HN1.out) HP1.out (by omega) (by simp)).mono ?_
  rintro e w2 ⟨he2, F2, v2, g1, hn2, fr2, ff2⟩
  subst he2
  have HN2 := hide hn2
  have HFR2 := hide fr2
  have HFF2 := hide ff2
  clear hn2 fr2 ff2
  go_wp2_with fail
  obtain ⟨M2, hM2, hp2⟩ : ∃ M2, M2 = (List.toArray ((Value.int .i64 8) :: (Value.int .i64 0) :: (Value.int .i64 0) :: (Value.int .u64 0) :: (Value.int .u64 0) :: (Value.int .u64 0) :: (Value.int .i64 0) :: (Value.int .u64 0) :: (Value.int .i64 0) :: (Value.int .i64 0) :: (Value.slice none 0 0) :: (Value.slice none 0 0) :: (Value.int .i64 0) :: (Value.int .i64 0) :: (Value.int .i64 0) :: (Value.int .i64 0) :: (Value.slice none 0 0) :: (Value.int .i64 0) :: (Value.int .i64 0) :: (Value.slice none 0 0) :: (Value.int .i64 0) :: (Value.slice none 0 0) :: (Value.slice none 0 0) :: (Value.int .i64 0) :: (Value.int .i64 0) :: (Value.int .i64 0) :: (Value.int .i64 0) :: (Value.int .i64 0) :: (Value.int .i64 0) :: (Value.int .i64 0) :: (Value.int .i64 0) :: (Value.int .i64 0) :: (Value.bool false) :: (Value.int .i64 0) :: (Value.int .i64 0) :: (Value.int .i64 0) :: (Value.int .i64 0) :: (Value.int .i64 0) :: (Value.int .i64 0) :: (Value.slice none 0 0) :: (Value.slice none 0 0) :: [])) ∧ Pl M2 := ⟨_, rfl, pl_kind 8 0⟩
  rw [← hM2]
  clear hM2
  have HP2 := hide hp2
  clear hp2
  go_at_call 13
  refine (send_any w2 n 1 _ _ _ M2 HN2.out HP2.out (by omega) (by simp)).mono ?_
  rintro e w3 ⟨he3, F3, v3, g2, hn3, fr3, ff3⟩
  subst he3
  generalize hA1 : M1.setIfInBounds 3 _ = A1 at hn3
  generalize hA2 : M2.setIfInBounds 3 _ = A2 at hn3
  have HA1 : Hid (A1[0]? = some (.int .i64 7)) := by apply hide; rw [← hA1, Array.getElem?_setIfInBounds, if_neg (by omega)]; exact HK1.out
  have HN3 : Hid (NtZ w3 n F3 2 v3 [(g1, A1), (g2, A2)]) := hide hn3
  have HFR3 := hide fr3
  have HFF3 := hide ff3
  clear hn3 fr3 ff3 hA1 hA2
  go_wp2_with fail
  -- Twice
  go_at_call 17
  refine (twice_any w3 n 2 F3 v3 _ 0 HN3.out (by simp) (by simp)).mono ?_
  rintro e w4 ⟨he4, F4, v4, hn4, fr4, ff4⟩
  subst he4
  have HN4 : Hid (NtZ w4 n F4 2 v4 [(g1, A1), (g2, A2), (g1, A1)]) := hide hn4
  have HFR4 := hide fr4
  have HFF4 := hide ff4
  clear hn4 fr4 ff4
  go_wp2_with fail
  -- Deliver, Deliver
  go_at_call 19
  refine (deliver_any w4 n 2 F4 v4 _ 0 HN4.out (by simp) (by simp)).mono ?_
  rintro e w5 ⟨he5, v5, hn5, fr5⟩
  have he5 : e = .returned (.tuple #[.agg A1, .bool true]) := he5
  subst he5
  have HN5 : Hid (NtZ w5 n F4 2 v5 [(g2, A2), (g1, A1)]) := hide hn5
  have HFR5 := hide fr5
  clear hn5 fr5
  have hpA : Pl A1 := (HN4.out.e (g1, A1) (by simp)).2.1
  have HI : Hid ((Try.prog.info? 54).map (·.size) = some A1.size) := by apply hide; rw [hpA.sz]; exact Try.info_msg
  have H1 := hide hpA.one
  have HSZ := hide hpA.sz
  clear hpA
  go_wp2_with (refine wpList_store_row rfl 54 (.tmp 5) (.tmp 26) rfl w5.heap.size A1 rfl rfl 54 _ (BxA.new _ _ _) HI.out (by rw [HSZ.out]; rfl) H1.out ?_)
  obtain ⟨W, hW⟩ : ∃ W, W = (w5.alloc (.cells (List.toArray ((Value.int .i64 0) :: (Value.int .i64 0) :: (Value.int .i64 0) :: (Value.int .u64 0) :: (Value.int .u64 0) :: (Value.int .u64 0) :: (Value.int .i64 0) :: (Value.int .u64 0) :: (Value.int .i64 0) :: (Value.int .i64 0) :: (Value.slice none 0 0) :: (Value.slice none 0 0) :: (Value.int .i64 0) :: (Value.int .i64 0) :: (Value.int .i64 0) :: (Value.int .i64 0) :: (Value.slice none 0 0) :: (Value.int .i64 0) :: (Value.int .i64 0) :: (Value.slice none 0 0) :: (Value.int .i64 0) :: (Value.slice none 0 0) :: (Value.slice none 0 0) :: (Value.int .i64 0) :: (Value.int .i64 0) :: (Value.int .i64 0) :: (Value.int .i64 0) :: (Value.int .i64 0) :: (Value.int .i64 0) :: (Value.int .i64 0) :: (Value.int .i64 0) :: (Value.int .i64 0) :: (Value.bool false) :: (Value.int .i64 0) :: (Value.int .i64 0) :: (Value.int .i64 0) :: (Value.int .i64 0) :: (Value.int .i64 0) :: (Value.int .i64 0) :: (Value.slice none 0 0) :: (Value.slice none 0 0) :: [])) 54)).setRow w5.heap.size A1 := ⟨_, rfl⟩
  have hWB : BxA W w5.heap.size 54 A1 := by rw [hW]; exact setRow_heap _ _ _ A1 _ _ (BxA.new _ _ _)
  have hGW : Grows w5 W := by rw [hW]; exact (Grows.alloc _ _).setRow A1 (Nat.le_refl _)
  rw [← hW]
  clear hW
  have HWB := hide hWB
  have HGW := hide hGW.below
  have HNW := hide (HN5.out.below hGW.below)
  clear hWB hGW
  go_at_call 19
  refine (deliver_any W n 2 F4 v5 _ 1 HNW.out (by simp) (by simp)).mono ?_
  rintro e w6 ⟨he6, v6, hn6, fr6⟩
  have he6 : e = .returned (.tuple #[.agg A1, .bool true]) := he6
  subst he6
  have HN6 : Hid (NtZ w6 n F4 2 v6 [(g2, A2)]) := hide hn6
  have HFR6 := hide fr6
  clear hn6 fr6
  go_wp2_with (refine wpList_store_row rfl 54 (.tmp 7) (.tmp 31) rfl w6.heap.size A1 rfl rfl 54 _ (BxA.new _ _ _) HI.out (by rw [HSZ.out]; rfl) H1.out ?_)
  obtain ⟨X, hX⟩ : ∃ X, X = (w6.alloc (.cells (List.toArray ((Value.int .i64 0) :: (Value.int .i64 0) :: (Value.int .i64 0) :: (Value.int .u64 0) :: (Value.int .u64 0) :: (Value.int .u64 0) :: (Value.int .i64 0) :: (Value.int .u64 0) :: (Value.int .i64 0) :: (Value.int .i64 0) :: (Value.slice none 0 0) :: (Value.slice none 0 0) :: (Value.int .i64 0) :: (Value.int .i64 0) :: (Value.int .i64 0) :: (Value.int .i64 0) :: (Value.slice none 0 0) :: (Value.int .i64 0) :: (Value.int .i64 0) :: (Value.slice none 0 0) :: (Value.int .i64 0) :: (Value.slice none 0 0) :: (Value.slice none 0 0) :: (Value.int .i64 0) :: (Value.int .i64 0) :: (Value.int .i64 0) :: (Value.int .i64 0) :: (Value.int .i64 0) :: (Value.int .i64 0) :: (Value.int .i64 0) :: (Value.int .i64 0) :: (Value.int .i64 0) :: (Value.bool false) :: (Value.int .i64 0) :: (Value.int .i64 0) :: (Value.int .i64 0) :: (Value.int .i64 0) :: (Value.int .i64 0) :: (Value.int .i64 0) :: (Value.slice none 0 0) :: (Value.slice none 0 0) :: [])) 54)).setRow w6.heap.size A1 := ⟨_, rfl⟩
  have hXB : BxA X w6.heap.size 54 A1 := by rw [hX]; exact setRow_heap _ _ _ A1 _ _ (BxA.new _ _ _)
  have hGX : Grows w6 X := by rw [hX]; exact (Grows.alloc _ _).setRow A1 (Nat.le_refl _)
  rw [← hX]
  clear hX
  have HXB := hide hXB
  have HGX := hide hGX.below
  have HNX := hide (HN6.out.below hGX.below)
  have HF4 : Hid (∀ i, F4 i → w.heap.size ≤ i) := by
    apply hide
    have h1 := HB1.out.size
    have h2 := HFR2.out.size
    have h3 := HFR3.out.size
    intro i hi
    rcases HFF4.out i hi with h | h
    · rcases HFF3.out i h with h | h
      · rcases HFF2.out i h with h | h
        · rw [h]; exact Nat.le_refl _
        · omega
      · omega
    · omega
  have HWX : Hid (BxA X w5.heap.size 54 A1) := by
    apply hide
    refine BxA.up (BxA.frm HWB.out HFR6.out fun hf => ?_) hGX.below
    have := HN5.out.lt _ hf
    omega
  clear hXB hGX
  go_at_call 24
  refine (newSeen_any X 2).mono ?_
  rintro e w7 ⟨he7, hs7, hb7⟩
  subst he7
  have HS7 := hide hs7
  have HB7 := hide hb7
  clear hs7 hb7
  obtain ⟨s, hs⟩ : ∃ s, s = X.heap.size := ⟨_, rfl⟩
  have HSS := hide hs
  rw [← hs]
  clear hs
  go_wp2_with fail
  go_at_call 25
  refine (fresh_any w7 s 0 _ 2 3 5 none [] (by rw [HSS.out]; exact HS7.out) (by omega) (by omega) (by decide) (by omega)).mono ?_
  rintro e w8 ⟨b8, x8, y8, R8, F8, mo8, he8, hx8, hy8, hs8, hz8, hc8, fr8, ff8⟩
  have hR8 : R8 = [] ∧ x8.ids = [] := by
    rcases hz8 with h | ⟨h1, h2, _⟩
    · exact absurd h.length_eq (by simp)
    · exact ⟨h2, h1⟩
  obtain ⟨rfl, hxi⟩ := hR8
  rw [hxi] at hc8
  have hy : b8 = true ∧ y8.ids.Perm [5] := by
    rcases hc8 with ⟨_, _, h⟩ | ⟨h1, _, _, h4⟩ | ⟨_, _, h3, _⟩
    · rcases h with h | ⟨h, _⟩
      · simp at h
      · simp at h; omega
    · exact ⟨h1, by simpa using h4⟩
    · simp at h3; omega
  obtain ⟨rfl, hyp⟩ := hy
  subst he8
  have HS8 := hide hs8
  have HFR8 := hide fr8
  have HFF8 := hide ff8
  have HYP := hide hyp
  have HY8 := hide hy8
  clear hs8 fr8 ff8 hyp hy8 hx8 hz8 hc8 hxi
  go_wp2_with fail
  go_at_call 25
  refine (fresh_any w8 s 2 F8 2 3 5 mo8 [y8] HS8.out (by omega) (by omega) (by decide) (by omega)).mono ?_
  rintro e w9 ⟨b9, x9, y9, R9, F9, mo9, he9, hx9, hy9, hs9, hz9, hc9, fr9, ff9⟩
  have hb9 : b9 = false := by
    have hin : 5 ∈ x9.ids := by
      rcases hz9 with h | ⟨h1, h2, h3⟩
      · have hm : x9 ∈ [y8] := h.mem_iff.2 (List.mem_cons_self ..)
        simp only [List.mem_cons, List.not_mem_nil, or_false] at hm
        rw [hm]
        exact HYP.out.mem_iff.2 (by simp)
      · exact absurd HY8.out (h3 y8 (by simp))
    rcases hc9 with ⟨h, _⟩ | ⟨_, h, _⟩ | ⟨_, h, _⟩
    · exact h
    · exact absurd hin h
    · exact absurd hin h
  subst hb9
  subst he9
  have HFR9 := hide fr9
  clear hs9 hz9 hc9 fr9 ff9 hx9 hy9
  have HF7 : Hid (∀ i, F8 i → X.heap.size ≤ i) := by
    apply hide
    have h7 := HB7.out.size
    intro i hi
    rcases HFF8.out i hi with h | h
    · rw [h]; exact Nat.le_refl _
    · omega
  have hF89 : Fr (fun i => X.heap.size ≤ i) X w9 := ((Fr.of_below HB7.out).trans HFR8.out fun i _ h => by rw [h]; exact Nat.le_refl _).trans HFR9.out fun i _ h => HF7.out i h
  have HB9 : Hid (RowKit.Below X.heap.size X w9) := hide (hF89.below (Nat.le_refl _) fun i h => h)
  have kW := waiting_any w9 n 2 F4 v6 _ (HNX.out.below HB9.out)
  have t5 : w9.cell? ⟨w5.heap.size, 0, none⟩ = some (.int .i64 7) := (BxA.up HWX.out HB9.out).cell 0 _ HA1.out
  have t7 : w9.cell? ⟨w6.heap.size, 0, none⟩ = some (.int .i64 7) := (BxA.up HXB.out HB9.out).cell 0 _ HA1.out
  clear hF89
  go_wp2_with (go_at_call 22; refine kW.mono ?_; rintro e wx ⟨rfl, hwx⟩; have hwx := hwx.symm; subst hwx)
  go_ret
  refine ⟨rfl, ?_⟩
  have h1 := HB1.out.size
  have h2 := HFR2.out.size
  have hF1 : ∀ i, i = w.heap.size → w.heap.size ≤ i := fun i h => by rw [h]; exact Nat.le_refl _
  have hF2 : ∀ i, F2 i → w.heap.size ≤ i := fun i hi => by
    rcases HFF2.out i hi with h | h
    · exact hF1 i h
    · omega
  have hF3 : ∀ i, F3 i → w.heap.size ≤ i := fun i hi => by
    rcases HFF3.out i hi with h | h
    · exact hF2 i h
    · omega
  have f1 : Fr (fun i => w.heap.size ≤ i) w w1 := Fr.of_below HB1.out
  have f5 : Fr (fun i => w.heap.size ≤ i) w w5 := (((f1.trans HFR2.out fun i _ h => hF1 i h).trans HFR3.out fun i _ h => hF2 i h).trans HFR4.out fun i _ h => hF3 i h).trans HFR5.out fun i _ h => HF4.out i h
  have f6 : Fr (fun i => w.heap.size ≤ i) w w6 := (f5.trans (Fr.of_below (F := fun i => w.heap.size ≤ i) HGW.out) fun _ _ h => h).trans HFR6.out fun i _ h => HF4.out i h
  have f9 : Fr (fun i => w.heap.size ≤ i) w w9 := (f6.trans (Fr.of_below (F := fun i => w.heap.size ≤ i) HGX.out) fun _ _ h => h).trans (Fr.of_below (F := fun i => w.heap.size ≤ i) HB9.out) fun _ _ h => h
  exact f9.below (Nat.le_refl _) fun i h => h
end Go.Proofs.Ytnkllgpibmofiaa
