/- The walk of GrainSplits. -/
import Derived.Test.YthijbpodkklcnaaMtsA
import Derived.Test.YthijbpodkklcnaaRSpl
import Derived.Test.YthijbpodkklcnaaRAny
namespace Go.Proofs.Ythijbpodkklcnaa
open Go.RowKit Go.Sort

theorem errE_none : errE none = 1 := rfl
theorem errE_some (p : List Sp) : errE (some p) = 0 := rfl
set_option maxHeartbeats 4000000 in
theorem splits_walk (w : World) (s : Sp) (hs : In64 s.1 ∧ In64 s.2) (g : Int) (hg : In64 g) :
    Calls Try.prog 6 #[.agg #[.int .i64 s.1, .int .i64 s.2], .int .i64 g] w fun e w' => e = .returned (.bool true) ∧ Below w.heap.size w w' := by
  obtain ⟨F, T⟩ := s
  simp only at *
  obtain ⟨W, hW⟩ : ∃ W, W = w.alloc (.cells #[.int .i64 F, .int .i64 T] 23) := ⟨_, rfl⟩
  have kA := awake_any W
  have bW : Below w.heap.size w W := by rw [hW]; exact (Grows.alloc _ _).below
  have hsW : W.heap.size = w.heap.size + 1 := by rw [hW]; simp
  have c0 : W.cell? ⟨w.heap.size, 0, none⟩ = some (.int .i64 F) ∧ W.cell? ⟨w.heap.size, 1, none⟩ = some (.int .i64 T) := by
    rw [hW]; exact At.new w (F, T) _ rfl
  have HX : Hid _ := And.intro bW (And.intro c0 hsW)
  rw [hW] at kA
  have HW : Hid _ := hW
  clear hW bW c0 hsW
  go_enter Try.func6, Try.ntmps6
  go_upto_region 2 with fail
  refine kA.mono ?_
  rintro e w1 ⟨rfl, bb1⟩
  rw [← HW.out] at bb1
  obtain ⟨bW, c0, hsW⟩ := HX.out
  have HB1 : Hid (Below w.heap.size w w1) := bW.trans (bb1.mono (by omega))
  have d0 : w1.cell? ⟨w.heap.size, 0, none⟩ = some (.int .i64 F) := by rw [bb1.cell (by rw [hsW]; simp)]; exact c0.1
  have d1 : w1.cell? ⟨w.heap.size, 1, none⟩ = some (.int .i64 T) := by rw [bb1.cell (by rw [hsW]; simp)]; exact c0.2
  have kS := split_any w1 (F, T) g hs.1 hs.2 hg
  simp only at kS
  obtain ⟨Z, hZ⟩ : ∃ Z, splitE (F, T) g = Z := ⟨_, rfl⟩
  have HZ : Hid _ := hZ
  rw [hZ] at kS
  have he : ∀ Z : Option (List Sp), errE Z = 0 ∨ errE Z = 1 := fun Z => by cases Z; exact .inr rfl; exact .inl rfl
  clear kA HX bW c0 hsW bb1 HW hZ he
  by_cases h0 : F < -1152921504606846976
  · skip
    go_wp2_with fail
    refine kS.mono ?_
    rintro e w2 ⟨v2, rfl, o2, b2⟩
    have HB2 : Hid _ := HB1.out.trans (b2.mono HB1.out.size)
    obtain ⟨a2, n2, c2, hv2⟩ := own_sl o2
    subst hv2
    have hl2 := o2.rd.at.1
    cases Z with
    | none =>
      have hl3 : n2 = 0 := hl2
      subst hl3
      clear o2 b2 kS hl2
      go_wp2_with fail
      go_ret
      exact ⟨rfl, HB2.out⟩
    | some p =>
      clear o2 b2 kS hl2
      go_wp2_with fail
      go_ret
      exact ⟨rfl, HB2.out⟩
  · skip
    by_cases h1 : F > 1152921504606846976
    · skip
      go_wp2_with fail
      refine kS.mono ?_
      rintro e w2 ⟨v2, rfl, o2, b2⟩
      have HB2 : Hid _ := HB1.out.trans (b2.mono HB1.out.size)
      obtain ⟨a2, n2, c2, hv2⟩ := own_sl o2
      subst hv2
      have hl2 := o2.rd.at.1
      cases Z with
      | none =>
        have hl3 : n2 = 0 := hl2
        subst hl3
        clear o2 b2 kS hl2
        go_wp2_with fail
        go_ret
        exact ⟨rfl, HB2.out⟩
      | some p =>
        clear o2 b2 kS hl2
        go_wp2_with fail
        go_ret
        exact ⟨rfl, HB2.out⟩
    · skip
      by_cases h2 : T < -1152921504606846976
      · skip
        go_wp2_with fail
        refine kS.mono ?_
        rintro e w2 ⟨v2, rfl, o2, b2⟩
        have HB2 : Hid _ := HB1.out.trans (b2.mono HB1.out.size)
        obtain ⟨a2, n2, c2, hv2⟩ := own_sl o2
        subst hv2
        have hl2 := o2.rd.at.1
        cases Z with
        | none =>
          have hl3 : n2 = 0 := hl2
          subst hl3
          clear o2 b2 kS hl2
          go_wp2_with fail
          go_ret
          exact ⟨rfl, HB2.out⟩
        | some p =>
          clear o2 b2 kS hl2
          go_wp2_with fail
          go_ret
          exact ⟨rfl, HB2.out⟩
      · skip
        by_cases h3 : T > 1152921504606846976
        · skip
          go_wp2_with fail
          refine kS.mono ?_
          rintro e w2 ⟨v2, rfl, o2, b2⟩
          have HB2 : Hid _ := HB1.out.trans (b2.mono HB1.out.size)
          obtain ⟨a2, n2, c2, hv2⟩ := own_sl o2
          subst hv2
          have hl2 := o2.rd.at.1
          cases Z with
          | none =>
            have hl3 : n2 = 0 := hl2
            subst hl3
            clear o2 b2 kS hl2
            go_wp2_with fail
            go_ret
            exact ⟨rfl, HB2.out⟩
          | some p =>
            clear o2 b2 kS hl2
            go_wp2_with fail
            go_ret
            exact ⟨rfl, HB2.out⟩
        · skip
          by_cases h4 : g > 1152921504606846976
          · skip
            go_wp2_with fail
            refine kS.mono ?_
            rintro e w2 ⟨v2, rfl, o2, b2⟩
            have HB2 : Hid _ := HB1.out.trans (b2.mono HB1.out.size)
            obtain ⟨a2, n2, c2, hv2⟩ := own_sl o2
            subst hv2
            have hl2 := o2.rd.at.1
            cases Z with
            | none =>
              have hl3 : n2 = 0 := hl2
              subst hl3
              clear o2 b2 kS hl2
              go_wp2_with fail
              go_ret
              exact ⟨rfl, HB2.out⟩
            | some p =>
              clear o2 b2 kS hl2
              go_wp2_with fail
              go_ret
              exact ⟨rfl, HB2.out⟩
          · skip
            have hF : Near F := ⟨by omega, by omega⟩
            have hT : Near T := ⟨by omega, by omega⟩
            have HK : Aside (∀ W, Calls Try.prog 23 #[.agg #[.int .i64 F, .int .i64 T], .int .i64 g] W fun e w' => ∃ v', e = .returned (.tuple #[v', .int .i64 (errE Z)]) ∧ OwP w' W.heap.size v' (Z.getD []) ∧ Below W.heap.size W w') := fun W => by
              have := refsplit_any W (F, T) g hF hT (by omega) hg
              rw [HZ.out] at this
              exact this
            clear hF hT
            go_wp2_with fail
            refine kS.mono ?_
            rintro e w2 ⟨v2, rfl, o2, b2⟩
            have HB2 : Hid _ := HB1.out.trans (b2.mono HB1.out.size)
            have x0 : w2.cell? ⟨w.heap.size, 0, none⟩ = some (.int .i64 F) := by rw [b2.cell (World.block_lt_of_cell? _ _ d0)]; exact d0
            have x1 : w2.cell? ⟨w.heap.size, 1, none⟩ = some (.int .i64 T) := by rw [b2.cell (World.block_lt_of_cell? _ _ d1)]; exact d1
            obtain ⟨a2, n2, c2, hv2⟩ := own_sl o2
            subst hv2
            have HR2 : Hid _ := o2.rd
            have kR := HK.out w2
            clear o2 b2 kS d0 d1
            go_wp2_with fail
            refine kR.mono ?_
            rintro e w3 ⟨v3, rfl, o3, b3⟩
            have HB3 : Hid _ := HB2.out.trans (b3.mono HB2.out.size)
            have kSm := refsame_any w3 (.slice a2 n2 c2) v3 _ _ (HR2.out.below b3) o3.rd
            rw [decide_eq_true rfl] at kSm
            obtain ⟨a3, n3, c3, hv3⟩ := own_sl o3
            subst hv3
            generalize errE Z = er at *
            clear o3 b3 kR HK x0 x1
            go_wp2_with fail
            refine kSm.mono ?_
            rintro e w4 ⟨rfl, g4⟩
            have HB4 : Hid _ := HB3.out.trans (g4.below.mono HB3.out.size)
            clear kSm g4
            go_wp2_with fail
            go_ret
            exact ⟨rfl, HB4.out⟩
end Go.Proofs.Ythijbpodkklcnaa
