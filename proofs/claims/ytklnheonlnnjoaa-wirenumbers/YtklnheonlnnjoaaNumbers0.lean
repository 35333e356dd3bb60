/- The walk of WireNumbers. -/
import Derived.Test.YtklnheonlnnjoaaRefNums
import Derived.Deep.DeepCutAuto
import Derived.Laws.Concat
namespace Go.Proofs.Ytklnheonlnnjoaa
open Go.RowKit

theorem own_below {w w' : World} {base e size n : Nat} {v : Value} {xs : List Value} (h : w.ownsRow base e size v n xs) (hb : Below w.heap.size w w') : w'.ownsRow base e size v n xs := by
  refine ⟨h.1, ?_⟩
  rcases h.2 with h2 | ⟨g, cap, cur, h1, h2, h3, h4⟩
  · exact .inl h2
  · refine .inr ⟨g, cap, cur, h1, h2, ?_, h4⟩
    rw [hb.block g (Array.getElem?_eq_some_iff.1 h3).1]
    exact h3

set_option maxRecDepth 100000 in
set_option maxHeartbeats 1600000 in
theorem numbers_any (w : World) (v : Value) (l : List UInt8) (n : Nat) (k : Int) (s : ByteArray) (h : Reads w v l) (hl : l.length ≤ 140737488351232) (hn : n < 18446744073709551616)
    (hk1 : -9223372036854775808 ≤ k) (hk2 : k ≤ 9223372036854775807) (hs : s.size ≤ 140737488351232) :
    Calls Try.prog 4 #[v, .int .u64 n, .int .i64 k, .string s] w fun e w' => e = .returned (.bool true) ∧ Below w.heap.size w w' := by
  go_enter Try.func4, Try.ntmps4
  go_wp2_with fail
  refine (awake_any w).mono ?_
  rintro e u1 ⟨rfl, c1⟩
  go_wp2_with fail
  refine (uint_cap _ _ l n (h.below c1) hl hn).mono ?_
  rintro e u2 ⟨v2, rfl, hown2, hb2⟩
  have hpos := Num.uvF_pos 9 n
  obtain ⟨g, cp, hv2, hg2, _⟩ := hown2.some (by rw [List.length_append]; exact Nat.lt_of_lt_of_le hpos (Nat.le_add_left _ _))
  rw [hv2] at hown2
  rw [hv2]
  clear hv2
  have hown2' : u2.ownsRow u1.heap.size 5 1 (.slice (.some ⟨g, 0, none⟩) (l ++ Num.uv n).length cp) (l ++ Num.uv n).length (bv (l ++ Num.uv n)) := hown2
  have hn2 : 0 < (l ++ Num.uv n).length := by rw [List.length_append]; exact Nat.lt_of_lt_of_le hpos (Nat.le_add_left _ _)
  generalize hN2 : (l ++ Num.uv n).length = n2 at hown2 hown2' hn2 ⊢
  have HN2 := hide hN2
  clear hN2 hpos v2
  have c2 := c1.trans (hb2.mono c1.size)
  go_wp2_with fail
  refine (int_cap _ _ l k (h.below c2) hl hk1 hk2).mono ?_
  rintro e u3 ⟨v3, rfl, hown3, hb3⟩
  have c3 := c2.trans (hb3.mono c2.size)
  go_wp2_with fail
  refine (text_cap _ _ l s (h.below c3) hl hs).mono ?_
  rintro e u4 ⟨v4, rfl, hown4, hb4⟩
  have c4 := c3.trans (hb4.mono c3.size)
  have r0 := h.below c4
  have o2 := (hown2.below hb3).below hb4
  have o2' := own_below (own_below hown2' hb3) hb4
  have r2 := o2.reads
  have r3 := (hown3.reads.below hb4)
  have r4 := hown4.reads
  have hws : w.heap.size ≤ u1.heap.size := c1.size
  have hun := Num.uv_length n
  have huk := Num.uv_length (Lib.zigzag k)
  have hus := Num.uv_length s.size
  have HW : Hid (Reads w v l) := h
  clear hown2 hown2' hown3 hown4 hb2 hb3 hb4 c1 c2 c3 h
  go_wp2_with fail
  go_cut [13] (fun t wA => t = .bool true ∧ Below u4.heap.size u4 wA)
  case first =>
    have a2 := conv_string u4.drew (.slice (.some ⟨g, 0, none⟩) n2 cp) _ r2
    have a0 := conv_string u4.drew v _ r0
    go_region_with (first
      | (go_at_call 14; refine (refuint_any _ n hn).mono ?_; rintro e u5 ⟨v5, rfl, hown5, hb5⟩; have b5 := conv_string u5 v5 _ hown5.reads; have b2 := conv_string u5 (.slice (.some ⟨g, 0, none⟩) n2 cp) _ (Reads.below (by exact r2) hb5); have b0 := conv_string u5 v _ (Reads.below (by exact r0) hb5)))
    all_goals
      have hb6 : Below u4.heap.size u4 u5 := (Below.refl _ _).drew.trans hb5
      clear a2 a0 b5 b2 b0 hown5 hb5 r0 o2 o2' r2 r3 r4
      go_wp2_with fail
      go_meet
      case rel => exact ⟨by simp [ByteArray.mk_append_mk], hb6⟩
  case rest =>
    obtain ⟨rfl, cA⟩ := hcut
    rename World => wA
    go_wp2_with fail
    go_cut [14] (fun t wB => t = .bool true ∧ Below u4.heap.size u4 wB)
    case first =>
      have a2 := conv_string wA.drew v3 _ (r3.below cA.drew)
      have a0 := conv_string wA.drew v _ (r0.below cA.drew)
      go_region_with (first
        | (go_at_call 15; refine (refint_any _ k hk1 hk2).mono ?_; rintro e u5 ⟨v5, rfl, hown5, hb5⟩; have b5 := conv_string u5 v5 _ hown5.reads; have b2 := conv_string u5 v3 _ (Reads.below (by exact (r3.below cA.drew)) hb5); have b0 := conv_string u5 v _ (Reads.below (by exact (r0.below cA.drew)) hb5)))
      all_goals
        have hb6 : Below u4.heap.size u4 u5 := (cA.drew.trans (hb5.mono cA.size))
        clear a2 a0 b5 b2 b0 hown5 hb5 r0 o2 o2' r2 r3 r4
        go_wp2_with fail
        go_meet
        case rel => exact ⟨by simp [ByteArray.mk_append_mk], hb6⟩
    case rest =>
      obtain ⟨rfl, cB⟩ := hcut
      rename World => wB
      go_wp2_with fail
      go_cut [15] (fun t wC => t = .bool true ∧ Below u4.heap.size u4 wC)
      case first =>
        have a2 := conv_string wB.drew v4 _ (r4.below cB.drew)
        have a0 := conv_string wB.drew v _ (r0.below cB.drew)
        go_region_with (first
          | (go_at_call 16; refine (reftext_any _ s hs).mono ?_; rintro e u5 ⟨v5, rfl, hown5, hb5⟩; have b5 := conv_string u5 v5 _ hown5.reads; have b2 := conv_string u5 v4 _ (Reads.below (by exact (r4.below cB.drew)) hb5); have b0 := conv_string u5 v _ (Reads.below (by exact (r0.below cB.drew)) hb5)))
        all_goals
          have hb6 : Below u4.heap.size u4 u5 := (cB.drew.trans (hb5.mono cB.size))
          clear a2 a0 b5 b2 b0 hown5 hb5 r0 o2 o2' r2 r3 r4
          go_wp2_with fail
          go_meet
          case rel => exact ⟨by simp [ByteArray.mk_append_mk], hb6⟩
      case rest =>
        obtain ⟨rfl, cC⟩ := hcut
        rename World => wC
        have oC := own_below o2' cC
        have hL0 : 0 < (l ++ Num.uv n).length := by rw [unhide HN2]; exact hn2
        have hcell : wC.cell? ⟨g, 0, none⟩ = some (.int .u8 (((l ++ Num.uv n).getD 0 0).toNat : Int)) := by
          rw [World.ownsRow.cellAt oC 0 (by omega), bv_get _ 0 hL0]
        have hfr := World.ownsRow.frozenAt oC 0
        have cW := c4.trans (cC.mono c4.size)
        have t0 := conv_string wC v _ ((unhide HW).below cW)
        have t1 := fun X => conv_string (wC.setCell ⟨g, 0, none⟩ X) v _ ((unhide HW).below (cW.setCell (p := ⟨g, 0, none⟩) (by exact Nat.le_trans hws hg2) X))
        generalize (((l ++ Num.uv n).getD 0 0).toNat : Int) = x0 at *
        clear o2 o2' oC r0 r2 r3 r4 cA cB HN2 hL0 hun huk hus
        have hp2 : (0 : Int) < (n2 : Int) := by omega
        have hne : ((n2 : Int) == 0) = false := by rw [beq_eq_false_iff_ne]; omega
        go_wp2
        go_ret
        exact ⟨by simp, cW.setCell (p := ⟨g, 0, none⟩) (by exact Nat.le_trans hws hg2) _⟩
end Go.Proofs.Ytklnheonlnnjoaa
