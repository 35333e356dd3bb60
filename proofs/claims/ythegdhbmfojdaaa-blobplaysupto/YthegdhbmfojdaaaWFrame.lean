/- Contracts of Frame. -/
import Derived.Test.YthegdhbmfojdaaaWFours
import Derived.Laws.CopyOwn
import Derived.Deep.RegionWith
import Derived.Outline
namespace Go.Proofs.Ythegdhbmfojdaaa.Wi
open Go.RowKit

/-- A body in its frame. -/
def framed (l : List UInt8) : List UInt8 := Four.le4 (Crc.sum (Four.le4 l.length ++ l)) ++ (Four.le4 l.length ++ l)

set_option maxRecDepth 100000 in
set_option maxHeartbeats 400000 in
theorem frame_long (w : World) (v : Value) (l : List UInt8) (h : Reads w v l) (hl : 1048576 < l.length) :
    Calls Try.prog 45 #[v] w fun e w' => e = .returned (.tuple #[.slice none 0 0, .int .i64 1]) ∧ w' = w := by
  obtain ⟨ao, cap, rfl, h1, h2, h3, h4⟩ := h
  have hl' : (1048576 : Int) < (l.length : Int) := by omega
  go_enter Try.func45, Try.ntmps45
  go_wp2
  go_ret2
  exact ⟨rfl, rfl⟩

theorem take_splice {α : Type} (L m : List α) (off n : Nat) (h : off + m.length ≤ n) (hn : n ≤ L.length) :
    (L.take off ++ m ++ L.drop (off + m.length)).take n = (L.take n).take off ++ (m ++ (L.take n).drop (off + m.length)) := by
  have h1 : (L.take off).length = off := by simp; omega
  rw [List.append_assoc, List.take_append, List.take_append, h1, List.take_of_length_le (by omega : (L.take off).length ≤ n), List.take_of_length_le (by omega : m.length ≤ n - off), List.drop_take, List.take_take, Nat.min_eq_left (by omega)]
  congr 3
  omega

theorem copy_owned {w1 : World} {base g n cap : Nat} {xs : List Value} (h : w1.ownsRow base 5 1 (.slice (some ⟨g, 0, none⟩) n cap) n xs) (off : Nat) (ad : Addr) (c dl dc : Nat) (l : List UInt8)
    (hsrc : ∀ j u, (bv l)[j]? = some u → w1.cell? (ad.add j) = some u) (hfit : off + l.length ≤ n) (hd : l.length ≤ dl) :
    ∃ w2, (∀ ty, (Builtin.copy_ #[33, 33] ty #[.slice (some ⟨g, off, none⟩) dl dc, .slice (some ad) l.length c]).run Try.prog w1 = .ok (goInt l.length) w2) ∧
      w2.ownsRow base 5 1 (.slice (some ⟨g, 0, none⟩) n cap) n (splice xs off (bv l)) ∧ w1.grownBy w2 (some g) := by
  have hxl : xs.length = n := by have := h.1; simpa using this
  rcases h.2 with ⟨h', _⟩ | ⟨g', cap', cur, h', hb, hg, hnc, hcm, hcs, htake⟩
  · simp at h'
  · simp only [Value.slice.injEq, Option.some.injEq, Addr.mk.injEq, and_true, true_and] at h'
    obtain ⟨rfl, rfl⟩ := h'
    refine ⟨w1.setRow g (cur.toList.take off ++ bv l ++ cur.toList.drop (off + (bv l).length)).toArray, fun ty => ?_, ?_, ?_⟩
    · have := run_copy_row (P := Try.prog) w1 33 33 ty 5 g off dl dc ad l.length c cur 5 (bv l) Try.underlying33 (by kernel_rfl) hg (by rw [bv_length]; exact (Nat.min_eq_left hd).symm) hsrc (by rw [bv_length]; omega) (bv_one l)
      rw [this, bv_length]
    · refine ⟨by rw [length_splice _ _ _ (by rw [bv_length]; omega)]; simpa using h.1, .inr ⟨g, cap, _, rfl, hb, setRow_heap w1 g cur _ 5 (0, 0) hg, hnc, hcm, ?_, ?_⟩⟩
      · simp [bv_length]; omega
      · have e : xs = cur.toList.take n := by simpa using htake.symm
        simp only [splice, bv_length, Nat.mul_one]
        subst e
        have := take_splice cur.toList (bv l) off n (by rw [bv_length]; omega) (by simp; omega)
        rw [bv_length] at this
        exact this
    · exact ⟨rfl, rfl, rfl, by simp [World.setRow], fun k _ hk => setRow_other w1 g k _ (fun e => hk (by rw [e]))⟩

theorem put4_bv (a b c : List UInt8) (off n : Nat) (ha : a.length = off) (hb : b.length = 4) : put4 (bv (a ++ (b ++ c))) off n 4 = bv (a ++ (Four.le4 n ++ c)) := by
  subst ha
  match b, hb with
  | [b0, b1, b2, b3], _ =>
    simp [put4, bv, Four.le4]

theorem put4_bv0 (b c : List UInt8) (n : Nat) (hb : b.length = 4) : put4 (bv (b ++ c)) 0 n 4 = bv (Four.le4 n ++ c) := put4_bv [] b c 0 n rfl hb

theorem made_bv (n : Nat) : (madeCells (Value.int .u8 0).cells (n * 1)).toList = bv (List.replicate n 0) := by
  rw [Nat.mul_one]
  refine (toList_madeCells_one _ n).trans ?_
  simp [bv]
theorem splice_bv (l : List UInt8) : splice (bv (List.replicate (8 + l.length) 0)) 8 (bv l) = bv (List.replicate 4 0 ++ (List.replicate 4 0 ++ l)) := by
  simp [splice, bv]

set_option maxRecDepth 100000 in
set_option maxHeartbeats 800000 in
theorem frame_some (w : World) (l : List UInt8) (b off cap : Nat) (hr : Reads w (.slice (some ⟨b, off, none⟩) l.length cap) l) (hne : l ≠ []) (hl : l.length ≤ 1048576) :
    Calls Try.prog 45 #[.slice (some ⟨b, off, none⟩) l.length cap] w fun e w' => ∃ v', e = .returned (.tuple #[v', .int .i64 0]) ∧ Owns w' w.heap.size v' (framed l) ∧ Below w.heap.size w w' := by
  obtain ⟨ao, cap', he, h1, h2, h3, h4⟩ := id hr
  simp only [Value.slice.injEq] at he
  obtain ⟨rfl, _, rfl⟩ := he
  have hsrc := h4 _ rfl
  clear h3 h4
  obtain ⟨i0, hi, hz0, hz1, hz2⟩ := info_parts Try.info5
  have hl' : ¬ (1048576 : Int) < (l.length : Int) := by omega
  go_enter Try.func45, Try.ntmps45
  go_wp2_with (first
    | (at_make; refine wpList_make_full _ rfl _ _ 33 rfl w.heap.size 5 i0 (.int .u8 0) 1 Try.underlying33 hi hz0 hz1 .i64 .i64 _ _ (8 + l.length) rfl rfl (by omega) (by omega) (by rw [hz2]; omega) (by unfold maxLen; omega) (Nat.le_refl _) ?_; intro w1 hown1 hgrow1; rw [made_bv] at hown1; obtain ⟨w2, hcp, hown2, hgrow2⟩ := copy_owned hown1 8 ⟨b, off, none⟩ cap l.length l.length l (fun j u hj => hgrow1.cell (hsrc j u hj) (by simp)) (by omega) (Nat.le_refl _)))
  clear hcp hown1
  rw [splice_bv] at hown2
  refine (setFour_any w2 w.heap.size w.heap.size 4 (8 + l.length) (8 + l.length) _ _ l.length (by omega) hown2 (by omega)).mono ?_
  rintro e w3 ⟨rfl, hown3, hgrow3⟩
  rw [put4_bv (List.replicate 4 0) (List.replicate 4 0) l 4 l.length rfl rfl] at hown3
  have hb2 : Below w.heap.size w w2 := ((Below.refl _ _).grown hgrow1 (Nat.le_refl _) (by simp)).grown hgrow2 hgrow1.size (by simp)
  have hb3 : Below w.heap.size w w3 := hb2.grown hgrow3 hb2.size (by simp)
  clear hown2 hgrow1 hgrow2 hgrow3 hb2 w1 w2 hsrc hr
  have h84 : ¬ (8 + l.length = 4) := by omega
  have hrd : Reads w3 (.slice (some ⟨w.heap.size, 4, none⟩) (8 + l.length - 4) (8 + l.length - 4)) (Four.le4 l.length ++ l) := by
    refine ⟨some ⟨w.heap.size, 4, none⟩, 8 + l.length - 4, ?_, ?_, ?_, (fun h => by cases h), ?_⟩
    · simp [Four.le4_length]; omega
    · simp [Four.le4_length]; omega
    · unfold maxLen; omega
    · rintro ad ⟨rfl⟩
      intro j u hj
      have hj' : j < (Four.le4 l.length ++ l).length := by
        obtain ⟨hh, _⟩ := List.getElem?_eq_some_iff.1 hj
        rw [bv_length] at hh; exact hh
      rw [List.length_append, Four.le4_length] at hj'
      rw [Addr.add_lit, World.ownsRow.cellAt hown3 (4 + j) (by omega), bv_append, List.getElem?_append_right (by simp [bv_length])]
      simpa [bv_length] using hj
  go_wp2_with fail
  go_region_with (first
    | (go_at_call 76; refine (sum_any _ _ (Four.le4 l.length ++ l) ?_).mono ?_; exact hrd; rintro e w' ⟨rfl, rfl⟩)
    | (go_at_call 75; refine (setFour_any _ w.heap.size w.heap.size 0 (8 + l.length) (8 + l.length) _ _ (Crc.sum (Four.le4 l.length ++ l)) (Crc.sum_lt _) hown3.drew (by omega)).mono ?_; rintro e w4 ⟨rfl, hown4, hgrow4⟩))
  all_goals
    have hown5 := hown4
    rw [put4_bv0 (List.replicate 4 0) (Four.le4 l.length ++ l) _ rfl] at hown5
    clear hown4 hown3 hrd
    go_wp2
    go_ret2
    refine ⟨_, rfl, ?_, hb3.drew.grown hgrow4 hb3.size (by simp)⟩
    unfold Owns framed
    rw [show (Four.le4 (Crc.sum (Four.le4 l.length ++ l)) ++ (Four.le4 l.length ++ l)).length = 8 + l.length by simp [Four.le4_length]; omega]
    exact hown5
set_option maxRecDepth 100000 in
set_option maxHeartbeats 800000 in
theorem frame_none (w : World) (ao : Option Addr) (cap : Nat) :
    Calls Try.prog 45 #[.slice ao 0 cap] w fun e w' => ∃ v', e = .returned (.tuple #[v', .int .i64 0]) ∧ Owns w' w.heap.size v' (framed []) ∧ Below w.heap.size w w' := by
  obtain ⟨i0, hi, hz0, hz1, hz2⟩ := info_parts Try.info5
  have hcp := fun (w1 : World) (d : Option Addr) (dl dc : Nat) => run_copy_none (P := Try.prog) w1 33 33 3 5 d ao dl dc 0 cap Try.underlying33 (by kernel_rfl) (Nat.zero_min _)
  go_enter Try.func45, Try.ntmps45
  go_wp2_with (first
    | (at_make; refine wpList_make_full _ rfl _ _ 33 rfl w.heap.size 5 i0 (.int .u8 0) 1 Try.underlying33 hi hz0 hz1 .i64 .i64 _ _ 8 rfl rfl (by omega) (by omega) (by rw [hz2]; omega) (by unfold maxLen; omega) (Nat.le_refl _) ?_; intro w1 hown2 hgrow1; rw [made_bv] at hown2))
  clear hcp
  refine (setFour_lit w1 w.heap.size w.heap.size 4 8 8 _ _ 0 0 (by omega) rfl hown2 (by omega)).mono ?_
  rintro e w3 ⟨rfl, hown3, hgrow3⟩
  have hown3' : w3.ownsRow w.heap.size 5 1 (.slice (some ⟨w.heap.size, 0, none⟩) 8 8) 8 (bv (List.replicate 4 0 ++ (Four.le4 0 ++ []))) := by
    rw [← put4_bv (List.replicate 4 0) (List.replicate 4 0) [] 4 0 rfl rfl]; exact hown3
  have hb2 : Below w.heap.size w w1 := (Below.refl _ _).grown hgrow1 (Nat.le_refl _) (by simp)
  have hb3 : Below w.heap.size w w3 := hb2.grown hgrow3 hb2.size (by simp)
  clear hown2 hgrow1 hgrow3 hb2 w1 hown3
  obtain ⟨L, hL⟩ : ∃ L, L = Four.le4 0 ++ [] := ⟨_, rfl⟩
  rw [← hL] at hown3'
  have hL4 : L.length = 4 := by rw [hL]; rfl
  have HL : Hid (L = Four.le4 0 ++ []) := hL
  clear hL
  have hrd : Reads w3 (.slice (some ⟨w.heap.size, 4, none⟩) 4 4) L := by
    refine ⟨some ⟨w.heap.size, 4, none⟩, 4, by rw [hL4], by omega, by unfold maxLen; omega, (fun h => by cases h), ?_⟩
    rintro ad ⟨rfl⟩
    intro j u hj
    have hj' : j < 4 := by
      obtain ⟨hh, _⟩ := List.getElem?_eq_some_iff.1 hj
      rw [bv_length] at hh; omega
    rw [Addr.add_lit, World.ownsRow.cellAt hown3' (4 + j) (by omega), bv_append, List.getElem?_append_right (by simp [bv_length])]
    simpa [bv_length] using hj
  have HL4 : Hid (L.length = 4) := hL4
  clear hL4
  go_wp2_with fail
  go_region_with (first
    | (go_at_call 76; refine (sum_any _ _ L ?_).mono ?_; exact hrd; rintro e w' ⟨rfl, rfl⟩)
    | (go_at_call 75; refine (setFour_any _ w.heap.size w.heap.size 0 8 8 _ _ (Crc.sum L) (Crc.sum_lt _) hown3'.drew (by omega)).mono ?_; rintro e w4 ⟨rfl, hown4, hgrow4⟩))
  all_goals
    have hown5 := hown4
    rw [put4_bv0 (List.replicate 4 0) L _ rfl] at hown5
    clear hown4 hown3' hrd
    go_wp2
    go_ret2
    refine ⟨_, rfl, ?_, hb3.drew.grown hgrow4 hb3.size (by simp)⟩
    unfold Owns framed
    show World.ownsRow _ _ _ _ _ (Four.le4 (Crc.sum (Four.le4 0 ++ [])) ++ (Four.le4 0 ++ [])).length (bv (Four.le4 (Crc.sum (Four.le4 0 ++ [])) ++ (Four.le4 0 ++ [])))
    rw [← HL.out, List.length_append, Four.le4_length, HL4.out]
    exact hown5

theorem frame_any (w : World) (v : Value) (l : List UInt8) (h : Reads w v l) (hl : l.length ≤ 1048576) :
    Calls Try.prog 45 #[v] w fun e w' => ∃ v', e = .returned (.tuple #[v', .int .i64 0]) ∧ Owns w' w.heap.size v' (framed l) ∧ Below w.heap.size w w' := by
  obtain ⟨ao, cap, rfl, _⟩ := id h
  obtain ⟨_, h1, h2, h3⟩ := h.cells
  by_cases h0 : l.length = 0
  · obtain rfl : l = [] := List.eq_nil_of_length_eq_zero h0
    exact frame_none w ao cap
  · obtain ⟨b, off, rfl, hc⟩ := h3 (by omega)
    exact frame_some w l b off cap h (fun e => h0 (by rw [e]; rfl)) hl
end Go.Proofs.Ythegdhbmfojdaaa.Wi
