/- The walk of BitsParses: any bytes are the set that the document says, or none. -/
import Derived.Test.YtcldmjjbiifejaaDoorIs
import Derived.Test.YtcldmjjbiifejaaDoorRefParse
namespace Go.Proofs.YtcldmjjbiifejaaDoor
open Go.RowKit

/-- What Parse and its reference answer, one by one. -/
theorem parse_spec (w : World) (v : Value) (bs : List Nat) (z : Int) (h : Rds w v (nv .u8 bs)) (hb : Bytes bs) (hz : -9223372036854775808 ≤ z ∧ z ≤ 9223372036854775807) (hn : z ≤ 1048576 → z ≤ 3000) (c : Nat)
    (hc : c = if 0 ≤ z ∧ z ≤ 1048576 then (if just bs z.toNat = true then 0 else 12) else 1) :
    (c ≠ 0 → (Calls Tryd.prog 15 #[v, .int .i64 z] w fun e w' => e = .returned (.tuple #[.pointer none, .int .i64 (c : Int)]) ∧ Below w.heap.size w w') ∧
      (Calls Tryd.prog 16 #[v, .int .i64 z] w fun e w' => (∃ v', e = .returned (.tuple #[v', .int .i64 (c : Int)])) ∧ Below w.heap.size w w')) ∧
    (c = 0 → (Calls Tryd.prog 15 #[v, .int .i64 z] w fun e w' => ∃ B g, e = .returned (.tuple #[.pointer (some ⟨B, 0, none⟩), .int .i64 0]) ∧ ISet w' 0 (.pointer (some ⟨B, 0, none⟩)) z.toNat (ofd 8 bs) B g ∧ Below w.heap.size w w') ∧
      (Calls Tryd.prog 16 #[v, .int .i64 z] w fun e w' => ∃ v', e = .returned (.tuple #[v', .int .i64 0]) ∧ Rds w' v' (bls z.toNat (ofd 8 bs)) ∧ Below w.heap.size w w')) := by
  by_cases hin : 0 ≤ z ∧ z ≤ 1048576
  · rw [if_pos hin] at hc
    have h3 := hn hin.2
    obtain ⟨n, rfl⟩ : ∃ n : Nat, z = n := ⟨z.toNat, by omega⟩
    simp only [Int.toNat_natCast] at *
    have p1 := parse_any w v bs n h hb (by omega)
    have p2 := refparse_any w v bs n h hb (by omega)
    by_cases hj : just bs n = true
    · rw [if_pos hj] at hc
      subst hc
      refine ⟨fun hh => absurd rfl hh, fun _ => ⟨p1.mono ?_, p2.mono ?_⟩⟩
      · rintro e w' ⟨q1, _, q3⟩
        obtain ⟨B, g, rfl, hs⟩ := q1 hj
        exact ⟨B, g, rfl, hs, q3⟩
      · rintro e w' ⟨q1, _, q3⟩
        obtain ⟨v', rfl, ho⟩ := q1 hj
        exact ⟨v', rfl, ho.rds, q3⟩
    · rw [if_neg hj] at hc
      rw [Bool.not_eq_true] at hj
      subst hc
      refine ⟨fun _ => ⟨p1.mono ?_, p2.mono ?_⟩, fun hh => by omega⟩
      · rintro e w' ⟨_, q2, q3⟩
        exact ⟨q2 hj, q3⟩
      · rintro e w' ⟨_, q2, q3⟩
        exact ⟨⟨_, q2 hj⟩, q3⟩
  · rw [if_neg hin] at hc
    subst hc
    refine ⟨fun _ => ⟨(parse_arg w v z hz hin (by obtain ⟨ao, cap, rfl, _⟩ := h; exact ⟨_, _, _, rfl⟩)), (refparse_arg w v z hin).mono ?_⟩, fun hh => by omega⟩
    rintro e w' ⟨rfl, rfl⟩
    exact ⟨⟨_, rfl⟩, Below.refl _ _⟩

set_option maxHeartbeats 1600000 in
theorem parses_walk (w : World) (v : Value) (bs : List Nat) (m : Int) (hT : TabAt 0 Lib.deBruijn64tab w) (h : Rds w v (nv .u8 bs)) (hb : Bytes bs) (hm : -9223372036854775808 ≤ m ∧ m ≤ 9223372036854775807) :
    Calls Tryd.prog 4 #[v, .int .i64 m] w fun e w' => e = .returned (.bool true) ∧ Below w.heap.size w w' := by
  obtain ⟨z, hz, hz5, hzr⟩ : ∃ z : Int, (z = if 3000 < m ∧ m ≤ 1048576 then m % 3000 else m) ∧ (z ≤ 1048576 → z ≤ 3000) ∧ (-9223372036854775808 ≤ z ∧ z ≤ 9223372036854775807) := by
    refine ⟨_, rfl, ?_, ?_⟩ <;> split <;> omega
  obtain ⟨c, hc⟩ : ∃ c : Nat, c = if 0 ≤ z ∧ z ≤ 1048576 then (if just bs z.toNat = true then 0 else 12) else 1 := ⟨_, rfl⟩
  have hspec := fun w v h => parse_spec w v bs z h hb hzr hz5 c hc
  have hc12 : c ≤ 12 := by rw [hc]; split <;> (try split) <;> omega
  have hzn : c = 0 → z ≤ 3000 := by
    intro h0
    by_cases hin : 0 ≤ z ∧ z ≤ 1048576
    · exact hz5 hin.2
    · rw [if_neg hin] at hc; omega
  have HT := hide hT
  have HH := hide h
  have HZ := hide hzn
  clear hc hT h hzn
  by_cases hc0 : c = 0
  · subst hc0
    have g1 := fun w v h => ((hspec w v h).2 rfl).1
    have g2 := fun w v h => ((hspec w v h).2 rfl).2
    have hn3 : z.toNat ≤ 3000 := by have := unhide HZ rfl; omega
    obtain ⟨n, hn⟩ : ∃ n, n = z.toNat := ⟨_, rfl⟩
    rw [← hn] at hn3
    simp only [← hn] at g1 g2
    clear hspec hn
    by_cases hbig : 3000 < m ∧ m ≤ 1048576
    · rw [if_pos hbig] at hz
      have hbig1 := hbig.1
      have hbig2 := hbig.2
      have hmm : m % 3000 = z := hz.symm
      clear hz hbig
      go_enter Tryd.func4, Tryd.ntmps4
      go_wp2_with fail
      refine (awake_any w).mono ?_
      rintro e1 w1 ⟨rfl, c1⟩
      go_wp2_with fail
      refine (g1 w1 _ ((unhide HH).below c1)).mono ?_
      rintro e1 w2 ⟨B, g, rfl, iS, d2⟩
      have c2 := c1.trans (below_mono d2 c1.size)
      go_wp2_with fail
      refine (g2 w2 _ ((unhide HH).below c2)).mono ?_
      rintro e1 w3 ⟨v', rfl, rV, d3⟩
      have c3 := c2.trans (below_mono d3 c2.size)
      go_wp2_with fail
      refine (is_any w3 v' n _ B g (iS.below d3) rV (tab_below (unhide HT) c3) (by omega)).mono ?_
      rintro e1 w4 ⟨rfl, d4⟩
      go_wp2
      go_ret
      exact ⟨by simp, c3.trans (below_mono d4 c3.size)⟩
    · rw [if_neg hbig] at hz
      subst hz
      by_cases hb1 : 3000 < z
      · have hb2 : ¬ z ≤ 1048576 := by omega
        have := unhide HZ rfl
        omega
      · clear hbig
        go_enter Tryd.func4, Tryd.ntmps4
        go_wp2_with fail
        refine (awake_any w).mono ?_
        rintro e1 w1 ⟨rfl, c1⟩
        go_wp2_with fail
        refine (g1 w1 _ ((unhide HH).below c1)).mono ?_
        rintro e1 w2 ⟨B, g, rfl, iS, d2⟩
        have c2 := c1.trans (below_mono d2 c1.size)
        go_wp2_with fail
        refine (g2 w2 _ ((unhide HH).below c2)).mono ?_
        rintro e1 w3 ⟨v', rfl, rV, d3⟩
        have c3 := c2.trans (below_mono d3 c2.size)
        go_wp2_with fail
        refine (is_any w3 v' n _ B g (iS.below d3) rV (tab_below (unhide HT) c3) (by omega)).mono ?_
        rintro e1 w4 ⟨rfl, d4⟩
        go_wp2
        go_ret
        exact ⟨by simp, c3.trans (below_mono d4 c3.size)⟩
  · have g1 := fun w v h => ((hspec w v h).1 hc0).1
    have g2 := fun w v h => ((hspec w v h).1 hc0).2
    have hci : ¬ (c : Int) = 0 := by omega
    clear hspec
    by_cases hbig : 3000 < m ∧ m ≤ 1048576
    · rw [if_pos hbig] at hz
      have hbig1 := hbig.1
      have hbig2 := hbig.2
      have hmm : m % 3000 = z := hz.symm
      clear hz hbig
      go_enter Tryd.func4, Tryd.ntmps4
      go_wp2_with fail
      refine (awake_any w).mono ?_
      rintro e1 w1 ⟨rfl, c1⟩
      go_wp2_with fail
      refine (g1 w1 _ ((unhide HH).below c1)).mono ?_
      rintro e1 w2 ⟨rfl, d2⟩
      have c2 := c1.trans (below_mono d2 c1.size)
      go_wp2_with fail
      refine (g2 w2 _ ((unhide HH).below c2)).mono ?_
      rintro e1 w3 ⟨⟨v', rfl⟩, d3⟩
      go_wp2
      go_ret
      exact ⟨by simp, c2.trans (below_mono d3 c2.size)⟩
    · rw [if_neg hbig] at hz
      subst hz
      by_cases hb1 : 3000 < z
      · have hb2 : ¬ z ≤ 1048576 := by omega
        clear hbig
        go_enter Tryd.func4, Tryd.ntmps4
        go_wp2_with fail
        refine (awake_any w).mono ?_
        rintro e1 w1 ⟨rfl, c1⟩
        go_wp2_with fail
        refine (g1 w1 _ ((unhide HH).below c1)).mono ?_
        rintro e1 w2 ⟨rfl, d2⟩
        have c2 := c1.trans (below_mono d2 c1.size)
        go_wp2_with fail
        refine (g2 w2 _ ((unhide HH).below c2)).mono ?_
        rintro e1 w3 ⟨⟨v', rfl⟩, d3⟩
        go_wp2
        go_ret
        exact ⟨by simp, c2.trans (below_mono d3 c2.size)⟩
      · clear hbig
        go_enter Tryd.func4, Tryd.ntmps4
        go_wp2_with fail
        refine (awake_any w).mono ?_
        rintro e1 w1 ⟨rfl, c1⟩
        go_wp2_with fail
        refine (g1 w1 _ ((unhide HH).below c1)).mono ?_
        rintro e1 w2 ⟨rfl, d2⟩
        have c2 := c1.trans (below_mono d2 c1.size)
        go_wp2_with fail
        refine (g2 w2 _ ((unhide HH).below c2)).mono ?_
        rintro e1 w3 ⟨⟨v', rfl⟩, d3⟩
        go_wp2
        go_ret
        exact ⟨by simp, c2.trans (below_mono d3 c2.size)⟩
end Go.Proofs.YtcldmjjbiifejaaDoor
