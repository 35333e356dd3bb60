/- The contract of the reference's Split. -/
import Derived.Test.YthijbpodkklcnaaBks
import Derived.Test.YthijbpodkklcnaaSpl2
namespace Go.Proofs.Ythijbpodkklcnaa
open Go.RowKit Go.Sort

theorem room_parts {n : Nat} (h : n ≤ 1000) : n + 1 ≤ maxLen ∧ ((n + 1) + (n + 1) / 4 + 192) * 16 ≤ 281474976710656 := by
  unfold maxLen; omega
/-- Up to 2^60 either way. -/
def Near (x : Int) : Prop := -1152921504606846976 ≤ x ∧ x ≤ 1152921504606846976
theorem near64 {x : Int} (h : Near x) : In64 x := by unfold Near at h; unfold In64; omega
theorem fe_near {F T g : Int} (hg : 1 ≤ g) (hg2 : Near g) (hF : Near F) : bck F g + g = F + (g - F % g) ∧ fe F T g = min (F + (g - F % g)) T ∧ -4611686018427387904 ≤ F + (g - F % g) ∧ F + (g - F % g) ≤ 4611686018427387904 ∧ -4611686018427387904 ≤ bck F g ∧ bck F g ≤ 4611686018427387904 := by
  have h1 := Int.emod_nonneg F (show g ≠ 0 by omega)
  have h2 := Int.emod_lt_of_pos F (show 0 < g by omega)
  unfold Near at *
  unfold bck fe
  rw [if_neg (by omega), if_neg (by omega), if_neg (by omega)]
  omega

set_option maxHeartbeats 4000000 in
theorem refsplit_any (w : World) (s : Sp) (g : Int) (hF : Near s.1) (hT : Near s.2) (hg2 : g ≤ 1152921504606846976) (hg3 : In64 g) :
    Calls Try.prog 23 #[.agg #[.int .i64 s.1, .int .i64 s.2], .int .i64 g] w fun e w' => ∃ v', e = .returned (.tuple #[v', .int .i64 (errE (splitE s g))]) ∧ OwP w' w.heap.size v' ((splitE s g).getD []) ∧ Below w.heap.size w w' := by
  obtain ⟨i0, hi, hz0, hz1, hz2⟩ := info_parts Try.info_span
  obtain ⟨F0, T⟩ := s
  simp only at *
  have bA : Below w.heap.size w (w.alloc (.cells #[.int .i64 F0, .int .i64 T] 23)) := (Below.refl _ _).alloc (Nat.le_refl _) _
  by_cases hg : g < 1
  · have e : splitE (F0, T) g = none := by simp [splitE, hg]
    rw [e]
    clear e
    have HB : Hid _ := bA
    clear bA
    go_enter Try.func23, Try.ntmps23
    go_wp2_with fail
    go_returns
    exact ⟨_, rfl, OwP.nil _ _, HB.out⟩
  · have e : splitE (F0, T) g = cut g T 1000 F0 := by simp [splitE, hg]
    rw [e]
    clear e
    have hgn : Near g := ⟨by omega, hg2⟩
    have HOne : Aside (∀ l : List Sp, ∀ v ∈ pv l, v.oneCell' = true) := pv_one
    go_enter Try.func23, Try.ntmps23
    go_wp2_with fail
    go_loopg [6, 7] 1001 (fun kx v6 v7 wr => ∃ (parts : List Sp) (F : Int) (m : Nat), v7 = .int .i64 F ∧ m ≤ 1000 ∧ 1001 - m ≤ kx ∧ Hid (m = parts.length) ∧ Hid (OwP wr (w.heap.size + 1) v6 parts) ∧ wr.cell? ⟨w.heap.size, 1, none⟩ = some (.int .i64 T) ∧ Near F ∧ Hid (cut g T 1000 F0 = (cut g T (1000 - m) F).map (parts ++ ·)) ∧ Below w.heap.size w wr ∧ w.heap.size + 1 ≤ wr.heap.size)
    case atStart =>
      refine ⟨[], F0, 0, rfl, by omega, by omega, rfl, OwP.nil _ _, by simp, hF, ?_, bA, by simp⟩
      show _ = Option.map _ (cut g T 1000 F0)
      cases cut g T 1000 F0 <;> simp
    case round =>
      obtain ⟨parts, F, m, rfl, hm, hkx, HM, HO, c1, hIn, HC, bel, hsz⟩ := hrel
      have HBel : Hid _ := bel
      clear bel bA
      obtain ⟨a, n, c, hv⟩ := own_sl HO.out
      have hn : n = m := by
        have := HO.out.rd
        rw [hv] at this
        rw [this.at.1, HM.out]
      subst hn
      subst hv
      by_cases hc : F < T
      · by_cases hl : n = 1000
        · subst hl
          have hcut := HC.out
          rw [show 1000 - 1000 = 0 from rfl, cut_out g T F (by omega)] at hcut
          have HCut : Hid _ := hcut
          clear hcut
          go_wp2_with fail
          go_returns
          rw [HCut.out]
          exact ⟨_, rfl, OwP.nil _ _, HBel.out⟩
        · have hlf : ((n : Int) == 1000) = false := by simp; omega
          obtain ⟨f1, f2, f3, f4, f5, f6⟩ := fe_near (T := T) (show 1 ≤ g by omega) hgn hIn
          have kb := refbucket_any wr F g hg3 (near64 hIn)
          have hcut := HC.out
          rw [show 1000 - n = (1000 - (n + 1)) + 1 by omega, cut_more g T _ F (by omega), f2] at hcut
          have hfe := fe_in (F := F) (T := T) (g := g) (by omega) hc
          rw [f2] at hfe
          have HCut : Hid _ := hcut
          clear f2 hcut
          generalize F + (g - F % g) = D at *
          generalize bck F g = Bk at *
          have HRm := room_parts hm
          have HR0 : Hid (parts.length + 1 ≤ maxLen ∧ ((parts.length + 1) + (parts.length + 1) / 4 + 192) * 16 ≤ 281474976710656) := by have := HM.out; rw [← this]; exact HRm
          clear HRm
          by_cases hd : D > T
          · have e : min D T = T := by omega
            rw [e] at HCut hfe
            have HR : Hid (RdsK 2 (wr.alloc (.cells #[.int .i64 F, .int .i64 T] 23)) (.slice (some ⟨wr.heap.size, 0, none⟩) 1 1) 1 (pv [(F, T)])) := one_rds wr (F, T) _ rfl
            have HO5 : Hid ((wr.alloc (.cells #[.int .i64 F, .int .i64 T] 23)).ownsRow (w.heap.size + 1) 23 2 (.slice a n c) parts.length (pv parts)) := HO.out.below ((Below.refl _ _).alloc (Nat.le_refl _) _)
            have hws : w.heap.size + 1 ≤ (wr.alloc (.cells #[.int .i64 F, .int .i64 T] 23)).heap.size := by simp; omega
            obtain ⟨hza, hzb⟩ := HR0.out
            clear HO e
            go_wp2_with (first
              | (go_at_call 18; refine kb.mono ?_; rintro e w' ⟨rfl, rfl⟩)
              | (at_builtin; refine wpList_appK rfl _ _ 28 rfl (w.heap.size + 1) 23 i0 (.agg #[.int .i64 0, .int .i64 0]) 2 16 Try.underlying28 hi hz0 hz1 hz2 rfl (by decide) _ _ _ rfl HO5.out _ _ _ rfl HR.out (HOne.out _) hza hzb hws ?_; intro v7 w7 hown7 hgrow7 hnil7; clear hnil7; have b7 : Below (w.heap.size + 1) _ w7 := (Below.refl _ _).grown hgrow7 hws (fun k hk => (World.ownsRow.lt HO5.out k hk).1); have e1 : w7.cell? ⟨w.heap.size, 1, none⟩ = some (.int .i64 T) := (by rw [b7.cell (Nat.lt_succ_self _)]; exact cell_grow c1 _); have HB7 : Hid (Below (w.heap.size + 1) _ w7) := b7; have HO7 : Hid _ := hown7; clear b7 hown7 hgrow7))
            go_roundg (1001 - (n + 1))
            case measure => omega
            case rel =>
              refine ⟨parts ++ [(F, T)], T, n + 1, rfl, by omega, Nat.le_refl _, ?_, ?_, e1, hT, ?_, ?_, ?_⟩
              · show n + 1 = _
                have := HM.out
                simp; omega
              · show OwP _ _ _ _
                unfold OwP
                rw [pv_app, List.length_append]
                exact HO7.out
              · show cut g T 1000 F0 = _
                rw [HCut.out]
                cases cut g T (1000 - (n + 1)) T <;> simp
              · exact (HBel.out.trans (((Below.refl _ _).alloc (Nat.le_refl _) _).mono (by omega))).trans (HB7.out.mono (by omega))
              · have := HB7.out.size
                simp at *; omega
          · have e : min D T = D := by omega
            rw [e] at HCut hfe
            have HR : Hid (RdsK 2 (wr.alloc (.cells #[.int .i64 F, .int .i64 D] 23)) (.slice (some ⟨wr.heap.size, 0, none⟩) 1 1) 1 (pv [(F, D)])) := one_rds wr (F, D) _ rfl
            have HO5 : Hid ((wr.alloc (.cells #[.int .i64 F, .int .i64 D] 23)).ownsRow (w.heap.size + 1) 23 2 (.slice a n c) parts.length (pv parts)) := HO.out.below ((Below.refl _ _).alloc (Nat.le_refl _) _)
            have hws : w.heap.size + 1 ≤ (wr.alloc (.cells #[.int .i64 F, .int .i64 D] 23)).heap.size := by simp; omega
            obtain ⟨hza, hzb⟩ := HR0.out
            clear HO e
            go_wp2_with (first
              | (go_at_call 18; refine kb.mono ?_; rintro e w' ⟨rfl, rfl⟩)
              | (at_builtin; refine wpList_appK rfl _ _ 28 rfl (w.heap.size + 1) 23 i0 (.agg #[.int .i64 0, .int .i64 0]) 2 16 Try.underlying28 hi hz0 hz1 hz2 rfl (by decide) _ _ _ rfl HO5.out _ _ _ rfl HR.out (HOne.out _) hza hzb hws ?_; intro v7 w7 hown7 hgrow7 hnil7; clear hnil7; have b7 : Below (w.heap.size + 1) _ w7 := (Below.refl _ _).grown hgrow7 hws (fun k hk => (World.ownsRow.lt HO5.out k hk).1); have e1 : w7.cell? ⟨w.heap.size, 1, none⟩ = some (.int .i64 T) := (by rw [b7.cell (Nat.lt_succ_self _)]; exact cell_grow c1 _); have HB7 : Hid (Below (w.heap.size + 1) _ w7) := b7; have HO7 : Hid _ := hown7; clear b7 hown7 hgrow7))
            go_roundg (1001 - (n + 1))
            case measure => omega
            case rel =>
              refine ⟨parts ++ [(F, D)], D, n + 1, rfl, by omega, Nat.le_refl _, ?_, ?_, e1, ?_, ?_, ?_, ?_⟩
              · show n + 1 = _
                have := HM.out
                simp; omega
              · show OwP _ _ _ _
                unfold OwP
                rw [pv_app, List.length_append]
                exact HO7.out
              · unfold Near at *; omega
              · show cut g T 1000 F0 = _
                rw [HCut.out]
                cases cut g T (1000 - (n + 1)) D <;> simp
              · exact (HBel.out.trans (((Below.refl _ _).alloc (Nat.le_refl _) _).mono (by omega))).trans (HB7.out.mono (by omega))
              · have := HB7.out.size
                simp at *; omega
      · have hcut := HC.out
        rw [cut_done g T _ F (by omega)] at hcut
        have HCut : Hid _ := hcut
        clear hcut
        go_wp2_with fail
        go_returns
        rw [HCut.out]
        refine ⟨_, rfl, ?_, HBel.out⟩
        show OwP _ _ _ (parts ++ [])
        rw [List.append_nil]
        exact HO.out.mono (by omega)
end Go.Proofs.Ythijbpodkklcnaa
