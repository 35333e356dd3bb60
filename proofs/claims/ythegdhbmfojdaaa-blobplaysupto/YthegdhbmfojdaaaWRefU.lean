/- Contracts of the reference's Unframe. -/
import Derived.Test.YthegdhbmfojdaaaWRefF
import Derived.Deep.DeepCutAuto
namespace Go.Proofs.Ythegdhbmfojdaaa.Wi
open Go.RowKit

set_option maxHeartbeats 400000 in
theorem refun_short (w : World) (v : Value) (l : List UInt8) (h : Reads w v l) (hl : l.length < 8) :
    Calls Try.prog 68 #[v] w fun e w' => e = .returned (.tuple #[.slice none 0 0, .int .i64 10]) ∧ w' = w := by
  obtain ⟨ao, cap, rfl, h1, h2, h3, h4⟩ := h
  have hl' : (l.length : Int) < 8 := by omega
  go_enter Try.func68, Try.ntmps68
  go_wp2
  go_ret2
  exact ⟨rfl, rfl⟩

theorem At.below {w w' : World} {b off : Nat} {l : List UInt8} (h : At w b off l) (hb : Below w.heap.size w w') : At w' b off l := by
  intro j u hj
  have hc := h j u hj
  rw [hb.cell (World.block_lt_of_cell? _ _ hc)]
  exact hc
theorem le4_of_num (l : List UInt8) (h : l.length = 4) : Four.le4 (Four.num l) = l := by
  match l, h with
  | [a, b, c, d], _ => exact Four.le4_num a b c d
theorem num_four (l : List UInt8) (hl : 8 ≤ l.length) : Four.num ((l.drop 4).take 4) = (l.getD 4 0).toNat + 256 * (l.getD 5 0).toNat + 65536 * (l.getD 6 0).toNat + 16777216 * (l.getD 7 0).toNat := by
  match l, hl with
  | a :: b :: c :: d :: e :: f :: g :: h :: r, _ => simp [Four.num]; omega

set_option maxHeartbeats 800000 in
theorem refun_form (w : World) (l : List UInt8) (b off cap : Nat) (h : At w b off l) (hl : 8 ≤ l.length) (hb : l.length ≤ 2 ^ 63 - 1)
    (hbad : Four.num ((l.drop 4).take 4) ≠ l.length - 8 ∨ 1048576 < l.length - 8) :
    Calls Try.prog 68 #[.slice (some ⟨b, off, none⟩) l.length cap] w fun e w' => e = .returned (.tuple #[.slice none 0 0, .int .i64 12]) ∧ ∃ n, w' = w.drewN n := by
  have hl' : ¬ (l.length : Int) < 8 := by omega
  rw [num_four l hl] at hbad
  have c4 := h.cell 4 (by omega)
  have c5 := h.cell 5 (by omega)
  have c6 := h.cell 6 (by omega)
  have c7 := h.cell 7 (by omega)
  have b4 := (l.getD 4 0).toNat_lt
  have b5 := (l.getD 5 0).toNat_lt
  have b6 := (l.getD 6 0).toNat_lt
  have b7 := (l.getD 7 0).toNat_lt
  generalize (l.getD 4 0).toNat = x4 at *
  generalize (l.getD 5 0).toNat = x5 at *
  generalize (l.getD 6 0).toNat = x6 at *
  generalize (l.getD 7 0).toNat = x7 at *
  have k4 : (4 : Int) < (l.length : Int) := by omega
  have k5 : (5 : Int) < (l.length : Int) := by omega
  have k6 : (6 : Int) < (l.length : Int) := by omega
  have k7 : (7 : Int) < (l.length : Int) := by omega
  clear h
  by_cases ht : x4 + 256 * x5 + 65536 * x6 + 16777216 * x7 = l.length - 8
  · have hd : ((x4 : Int) + x5 * 256 + x6 * 65536 + x7 * 16777216 != (l.length : Int) - 8) = false := by rw [bne_eq_false_iff_eq]; omega
    have hg : (1048576 : Int) < (x4 : Int) + x5 * 256 + x6 * 65536 + x7 * 16777216 := by omega
    clear ht hbad
    go_enter Try.func68, Try.ntmps68
    go_wp2_with fail
    go_quiet (fail)
    go_wp2
    go_ret2
    exact ⟨rfl, _, rfl⟩
  · have hd : ((x4 : Int) + x5 * 256 + x6 * 65536 + x7 * 16777216 != (l.length : Int) - 8) = true := by rw [bne_iff_ne]; omega
    clear ht hbad
    go_enter Try.func68, Try.ntmps68
    go_wp2_with fail
    go_quiet (fail)
    go_wp2
    go_ret2
    exact ⟨rfl, _, rfl⟩

set_option maxRecDepth 100000 in
set_option maxHeartbeats 800000 in
theorem refun_sum (w : World) (l : List UInt8) (b off cap : Nat) (h : At w b off l) (hc : l.length ≤ cap) (hm : cap ≤ maxLen) (hl : 8 ≤ l.length) (hb : l.length ≤ 1048584)
    (ht : Four.num ((l.drop 4).take 4) = l.length - 8) (hs : Four.num (l.take 4) ≠ Crc.sum (l.drop 4)) :
    Calls Try.prog 68 #[.slice (some ⟨b, off, none⟩) l.length cap] w fun e w' => e = .returned (.tuple #[.slice none 0 0, .int .i64 11]) ∧ Below w.heap.size w w' := by
  have hr4 := fun (w : World) (h : At w b off l) => (h.rest 4).reads (c := cap - 4) (by simp; omega) (by omega) (l.length - 4) (by simp)
  have hr0 := fun (w : World) (h : At w b off l) => (show At w b off (l.take 4) from h.part 0 4).reads (c := cap) (by simp; omega) hm 4 (by simp; omega)
  have hc4 : ¬ cap = 4 := by omega
  have hl' : ¬ (l.length : Int) < 8 := by omega
  unfold maxLen at hm
  rw [num_four l hl] at ht
  have c4 := h.cell 4 (by omega)
  have c5 := h.cell 5 (by omega)
  have c6 := h.cell 6 (by omega)
  have c7 := h.cell 7 (by omega)
  have b4 := (l.getD 4 0).toNat_lt
  have b5 := (l.getD 5 0).toNat_lt
  have b6 := (l.getD 6 0).toNat_lt
  have b7 := (l.getD 7 0).toNat_lt
  generalize (l.getD 4 0).toNat = x4 at *
  generalize (l.getD 5 0).toNat = x5 at *
  generalize (l.getD 6 0).toNat = x6 at *
  generalize (l.getD 7 0).toNat = x7 at *
  have k4 : (4 : Int) < (l.length : Int) := by omega
  have k5 : (5 : Int) < (l.length : Int) := by omega
  have k6 : (6 : Int) < (l.length : Int) := by omega
  have k7 : (7 : Int) < (l.length : Int) := by omega
  have hd : ((x4 : Int) + x5 * 256 + x6 * 65536 + x7 * 16777216 != (l.length : Int) - 8) = false := by rw [bne_eq_false_iff_eq]; omega
  have hg : ¬ (1048576 : Int) < (x4 : Int) + x5 * 256 + x6 * 65536 + x7 * 16777216 := by omega
  have hq : (Four.le4 (Crc.sum (l.drop 4)) == l.take 4) = false := by
    rw [beq_eq_false_iff_ne]; intro e; exact hs (by rw [← e, Four.num_le4 _ (Crc.sum_lt _)])
  have HR4 := hide hr4
  have HR0 := hide hr0
  clear ht hs hr4 hr0
  go_enter Try.func68, Try.ntmps68
  go_wp2_with fail
  go_quiet (fail)
  go_wp2_with fail
  clear c4 c5 c6 c7 b4 b5 b6 b7 k4 k5 k6 k7 hd hg
  go_cut [48] (fun t wc => t = .bool true ∧ Below w.heap.size w wc)
  case first =>
    have hcvA := conv_string (w.drewN (nq + 1)) _ _ (unhide HR0 _ h)
    go_region_with (first
      | (go_at_call 89; refine (refsum_any _ _ (l.drop 4) ?_).mono ?_; exact unhide HR4 _ h; rintro e w1 ⟨rfl, rfl⟩)
      | (go_at_call 88; refine (reffour_any _ _ (Crc.sum_lt _)).mono ?_; rintro e w2 ⟨v2, rfl, hown2, hbel2⟩; have hat2 : At w2 b off l := At.below (by exact h) hbel2; have hcv2 := conv_string w2 v2 _ hown2.reads; have hcv0 := conv_string w2 _ _ (unhide HR0 _ hat2)))
    all_goals
      have hbel3 : Below w.heap.size w w2 := (below_drewN (Below.refl _ _) (nq + 1)).trans hbel2
      clear hcv2 hcv0 hcvA hown2 hbel2 HR0 HR4
      go_wp2_with fail
      go_meet
      case rel => exact ⟨rfl, hbel3⟩
  case rest =>
    obtain ⟨rfl, hbel3⟩ := hcut
    go_wp2
    go_ret2
    exact ⟨rfl, hbel3⟩


set_option maxRecDepth 100000 in
set_option maxHeartbeats 800000 in
theorem refun_good (w : World) (l : List UInt8) (b off cap : Nat) (h : At w b off l) (hc : l.length ≤ cap) (hm : cap ≤ maxLen) (hl : 8 ≤ l.length) (hb : l.length ≤ 1048584)
    (ht : Four.num ((l.drop 4).take 4) = l.length - 8) (hs : Four.num (l.take 4) = Crc.sum (l.drop 4)) :
    Calls Try.prog 68 #[.slice (some ⟨b, off, none⟩) l.length cap] w fun e w' => ∃ v', e = .returned (.tuple #[v', .int .i64 0]) ∧ Owns w' w.heap.size v' (l.drop 8) ∧ Below w.heap.size w w' := by
  have hr4 := fun (w : World) (h : At w b off l) => (h.rest 4).reads (c := cap - 4) (by simp; omega) (by omega) (l.length - 4) (by simp)
  have hr0 := fun (w : World) (h : At w b off l) => (show At w b off (l.take 4) from h.part 0 4).reads (c := cap) (by simp; omega) hm 4 (by simp; omega)
  have hc4 : ¬ cap = 4 := by omega
  have hl' : ¬ (l.length : Int) < 8 := by omega
  unfold maxLen at hm
  rw [num_four l hl] at ht
  have c4 := h.cell 4 (by omega)
  have c5 := h.cell 5 (by omega)
  have c6 := h.cell 6 (by omega)
  have c7 := h.cell 7 (by omega)
  have b4 := (l.getD 4 0).toNat_lt
  have b5 := (l.getD 5 0).toNat_lt
  have b6 := (l.getD 6 0).toNat_lt
  have b7 := (l.getD 7 0).toNat_lt
  generalize (l.getD 4 0).toNat = x4 at *
  generalize (l.getD 5 0).toNat = x5 at *
  generalize (l.getD 6 0).toNat = x6 at *
  generalize (l.getD 7 0).toNat = x7 at *
  have k4 : (4 : Int) < (l.length : Int) := by omega
  have k5 : (5 : Int) < (l.length : Int) := by omega
  have k6 : (6 : Int) < (l.length : Int) := by omega
  have k7 : (7 : Int) < (l.length : Int) := by omega
  have hd : ((x4 : Int) + x5 * 256 + x6 * 65536 + x7 * 16777216 != (l.length : Int) - 8) = false := by rw [bne_eq_false_iff_eq]; omega
  have hg : ¬ (1048576 : Int) < (x4 : Int) + x5 * 256 + x6 * 65536 + x7 * 16777216 := by omega
  have hq : (Four.le4 (Crc.sum (l.drop 4)) == l.take 4) = true := by
    rw [beq_iff_eq, ← hs]; exact le4_of_num _ (by simp; omega)
  have HR4 := hide hr4
  have HR0 := hide hr0
  clear ht hs hr4 hr0
  go_enter Try.func68, Try.ntmps68
  go_wp2_with fail
  go_quiet (fail)
  go_wp2_with fail
  clear c4 c5 c6 c7 b4 b5 b6 b7 k4 k5 k6 k7 hd hg
  go_cut [48] (fun t wc => t = .bool false ∧ Below w.heap.size w wc)
  case first =>
    have hcvA := conv_string (w.drewN (nq + 1)) _ _ (unhide HR0 _ h)
    go_region_with (first
      | (go_at_call 89; refine (refsum_any _ _ (l.drop 4) ?_).mono ?_; exact unhide HR4 _ h; rintro e w1 ⟨rfl, rfl⟩)
      | (go_at_call 88; refine (reffour_any _ _ (Crc.sum_lt _)).mono ?_; rintro e w2 ⟨v2, rfl, hown2, hbel2⟩; have hat2 : At w2 b off l := At.below (by exact h) hbel2; have hcv2 := conv_string w2 v2 _ hown2.reads; have hcv0 := conv_string w2 _ _ (unhide HR0 _ hat2)))
    all_goals
      have hbel3 : Below w.heap.size w w2 := (below_drewN (Below.refl _ _) (nq + 1)).trans hbel2
      clear hcv2 hcv0 hcvA hown2 hbel2 HR0 HR4
      go_wp2_with fail
      go_meet
      case rel => exact ⟨rfl, hbel3⟩
  case rest =>
    obtain ⟨rfl, hbel3⟩ := hcut
    have hat3 := (h.below hbel3).rest 8
    have hsz3 := hbel3.size
    by_cases hc8 : cap = 8
    · have e8 : l.drop 8 = [] := List.drop_of_length_le (by omega)

      have HE := hide e8
      clear e8 hq HR4 HR0 hat3 h
      subst hc8
      clear hm hc4
      go_wp2_with (first
        | (at_builtin; refine wp_app rfl (.tmp 49) (.tmp 51) rfl w.heap.size (.slice none 0 0) [] [] rfl (World.ownsRow_nil _ _ _ _) _ _ _ rfl rfl (fun _ => ⟨rfl, rfl⟩) (fun _ _ _ _ hj => by simp [bv] at hj) (by simp) hsz3 ?_; intro v5 w5 hown5 hg5))
      go_ret2
      exact ⟨_, rfl, by rw [unhide HE]; exact hown5, hbel3.grown hg5 hsz3 (fun k hk => by cases hk)⟩
    · clear hq HR4 HR0 h
      go_wp2_with (first
        | (at_builtin; refine wp_app rfl (.tmp 49) (.tmp 51) rfl w.heap.size (.slice none 0 0) [] (l.drop 8) rfl (World.ownsRow_nil _ _ _ _) (.some ⟨b, off + 8, none⟩) (l.length - 8) (cap - 8) rfl (by simp) (fun h => by cases h) (fun ad ha j u hj => by cases ha; rw [Addr.add_lit]; exact hat3 j u hj) (by simp; omega) hsz3 ?_; intro v5 w5 hown5 hg5))
      go_ret2
      exact ⟨_, rfl, hown5, hbel3.grown hg5 hsz3 (fun k hk => by cases hk)⟩


theorem Reads.at {w : World} {ao : Option Addr} {cap : Nat} {l : List UInt8} (h : Reads w (.slice ao l.length cap) l) (hl : 0 < l.length) : ∃ b off, ao = some ⟨b, off, none⟩ ∧ At w b off l := by
  obtain ⟨_, h1, h2, h3⟩ := h.cells
  obtain ⟨b, off, rfl, hc⟩ := h3 hl
  refine ⟨b, off, rfl, fun j u hj => ?_⟩
  obtain ⟨hh, _⟩ := List.getElem?_eq_some_iff.1 hj
  rw [bv_length] at hh
  rw [bv_get l j hh] at hj
  rw [hc j hh]; exact hj

theorem refun_bad (w : World) (v : Value) (l : List UInt8) (h : Reads w v l) (hb : l.length ≤ 2 ^ 63 - 1) (hu : unf l ≠ 0) :
    Calls Try.prog 68 #[v] w fun e w' => e = .returned (.tuple #[.slice none 0 0, .int .i64 (unf l : Nat)]) ∧ Below w.heap.size w w' := by
  by_cases h8 : l.length < 8
  · have e : unf l = 10 := by simp [unf, h8]
    rw [e]
    refine (refun_short w v l h h8).mono ?_
    rintro e w' ⟨rfl, rfl⟩
    exact ⟨rfl, Below.refl _ _⟩
  · obtain ⟨ao, cap, rfl, _⟩ := id h
    obtain ⟨_, h1, h2, _⟩ := h.cells
    obtain ⟨b, off, rfl, hat⟩ := h.at (by omega)
    by_cases hf : Four.num ((l.drop 4).take 4) ≠ l.length - 8 ∨ 1048576 < l.length - 8
    · have e : unf l = 12 := by unfold unf; rw [if_neg h8, if_pos hf]
      rw [e]
      refine (refun_form w l b off cap hat (by omega) hb hf).mono ?_
      rintro e w' ⟨rfl, n, rfl⟩
      exact ⟨rfl, drewN_below w n⟩
    · by_cases hs : Four.num (l.take 4) ≠ Crc.sum (l.drop 4)
      · have e : unf l = 11 := by unfold unf; rw [if_neg h8, if_neg hf, if_pos hs]
        rw [e]
        exact refun_sum w l b off cap hat h1 h2 (by omega) (by omega) (by omega) hs
      · exact absurd (by unfold unf; rw [if_neg h8, if_neg hf, if_neg hs]) hu

theorem refun_ok (w : World) (v : Value) (l : List UInt8) (h : Reads w v l) (hu : unf l = 0) :
    Calls Try.prog 68 #[v] w fun e w' => ∃ v', e = .returned (.tuple #[v', .int .i64 0]) ∧ Owns w' w.heap.size v' (l.drop 8) ∧ Below w.heap.size w w' := by
  unfold unf at hu
  by_cases h8 : l.length < 8
  · rw [if_pos h8] at hu; cases hu
  rw [if_neg h8] at hu
  by_cases hf : Four.num ((l.drop 4).take 4) ≠ l.length - 8 ∨ 1048576 < l.length - 8
  · rw [if_pos hf] at hu; cases hu
  rw [if_neg hf] at hu
  by_cases hs : Four.num (l.take 4) ≠ Crc.sum (l.drop 4)
  · rw [if_pos hs] at hu; cases hu
  obtain ⟨ao, cap, rfl, _⟩ := id h
  obtain ⟨_, h1, h2, _⟩ := h.cells
  obtain ⟨b, off, rfl, hat⟩ := h.at (by omega)
  exact refun_good w l b off cap hat h1 h2 (by omega) (by omega) (by omega) (by omega)
end Go.Proofs.Ythegdhbmfojdaaa.Wi
