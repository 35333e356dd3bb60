/- The contract of a set's Bytes. -/
import Derived.Test.YtcldmjjbiifejaaDoorSetOps
namespace Go.Proofs.YtcldmjjbiifejaaDoor
open Go.RowKit

theorem byte_word (X i : Nat) : wd X (i / 8) / 2 ^ (i % 8 * 8) % 256 = X / 2 ^ (8 * i) % 2 ^ 8 := by
  rw [show (256 : Nat) = 2 ^ 8 from rfl]
  apply Nat.eq_of_testBit_eq
  intro j
  rw [Nat.testBit_mod_two_pow, Nat.testBit_div_two_pow, wd_bit, Nat.testBit_mod_two_pow, Nat.testBit_div_two_pow]
  by_cases hj : j < 8
  · simp [hj, show j + i % 8 * 8 < 64 by omega, show j + i % 8 * 8 + 64 * (i / 8) = j + 8 * i by omega]
  · simp [hj]

set_option maxHeartbeats 800000 in
theorem bytes_any (w : World) (base n X B g : Nat) (p : Value) (h : ISet w base p n X B g) :
    Calls Tryd.prog 24 #[p] w fun e w' => ∃ v', e = .returned v' ∧ Own w' w.heap.size 5 v' (nv .u8 (dg 8 ((n + 7) / 8) X)) ∧ Below w.heap.size w w' := by
  have hn := h.le
  have hp1 := h.ptr
  subst hp1
  have hwords := fun i hi => h.word i hi
  have hc0 := h.rows
  have hc1 := h.words
  obtain ⟨m, hm⟩ : ∃ m, m = wn n := ⟨_, rfl⟩
  have hml : m ≤ 16384 := by rw [hm]; unfold wn; omega
  obtain ⟨M, hM⟩ : ∃ M, M = (n + 7) / 8 := ⟨_, rfl⟩
  have hMl : M ≤ 131072 := by omega
  have hMm : ∀ i, i < M → i / 8 < m := by intro i hi; rw [hm]; unfold wn; omega
  rw [← hm] at hc1 hwords
  rw [← hM]
  obtain ⟨i0, hin, hz0, hz1, hz2⟩ := info_parts Tryd.info_u8
  have HM := hide hM
  have HMm := hide hMm
  clear hm hM hMm
  go_enter Tryd.func24, Tryd.ntmps24
  go_wp2_with fail
  refine (bytesFor_any w n (by omega)).mono ?_
  rintro e1 w3 ⟨rfl, rfl⟩
  rw [← unhide HM]
  go_wp2_with (first
    | (at_make; refine wpList_make_full _ rfl _ _ 36 rfl w3.heap.size 5 i0 (.int .u8 0) 1 Tryd.underlying36 hin hz0 hz1 .i64 .i64 _ _ M rfl rfl (by omega) (by omega) (by rw [hz2]; omega) (by unfold maxLen; omega) (Nat.le_refl _) ?_; intro w0 hown0 hgrow0))
  have hb0 : Below w3.heap.size w3 w0 := (Below.refl _ _).grown hgrow0 (Nat.le_refl _) (by simp)
  rw [made_nv _ _ 8] at hown0
  clear hgrow0
  go_loopw [15] (fun i wr => ∃ (k : Nat) (xs : List Nat), k ≤ M ∧ i = .int .i64 k ∧ Hid (xs.length = M ∧ ∀ i, i < k → xs.getD i 0 = X / 2 ^ (8 * i) % 2 ^ 8) ∧
      wr.ownsRow w3.heap.size 5 1 (.slice (some ⟨w3.heap.size, 0, none⟩) M M) M (nv .u8 xs) ∧ Below w3.heap.size w3 wr) (fun i _ => M - (intOf i).toNat)
  case atStart => exact ⟨0, _, by omega, rfl, hide ⟨dg_length 8 M 0, fun i hi => by omega⟩, hown0, hb0⟩
  case round =>
    obtain ⟨k, xs, hk, rfl, HX, hown, hbel⟩ := hrel
    by_cases hlt : k < M
    · have hlt' : (k : Int) < (M : Int) := by omega
      obtain ⟨q, hq⟩ : ∃ q, q = k / 8 := ⟨_, rfl⟩
      obtain ⟨r, hr⟩ : ∃ r, r = k % 8 := ⟨_, rfl⟩
      have hqm : q < m := by rw [hq]; exact unhide HMm k hlt
      have hqi : (k : Int) / 8 = (q : Int) := by omega
      have hri : (k : Int) % 8 = (r : Int) := by omega
      have hqmi : (q : Int) < (m : Int) := by omega
      have hck := hwords q hqm
      have hcw := hc1
      rw [← hbel.cell (World.block_lt_of_cell? _ _ hck)] at hck
      rw [← hbel.cell (World.block_lt_of_cell? _ _ hcw)] at hcw
      have hbw := byte_word X k
      rw [← hq, ← hr] at hbw
      have hl := wd_lt X q
      obtain ⟨x, hx⟩ : ∃ x, x = wd X q := ⟨_, rfl⟩
      rw [← hx] at hck hbw hl
      have hxl : x < 18446744073709551616 := hl
      have hr7 : r ≤ 7 := by omega
      obtain ⟨s, hs⟩ : ∃ s, s = r * 8 := ⟨_, rfl⟩
      have hsi : (r : Int) * 8 = (s : Int) := by omega
      have hsl : s ≤ 56 := by omega
      rw [← hs] at hbw
      obtain ⟨y, hy⟩ : ∃ y, y = x / 2 ^ s := ⟨_, rfl⟩
      have hyi : (x : Int) / 2 ^ s = (y : Int) := by rw [hy]; norm_cast
      have hyl : y ≤ x := by rw [hy]; exact Nat.div_le_self _ _
      rw [← hy] at hbw
      obtain ⟨z, hz⟩ : ∃ z, z = y % 256 := ⟨_, rfl⟩
      have hzi : (y : Int) % 256 = (z : Int) := by omega
      rw [← hz] at hbw
      have hcell : ∃ u, wr.cell? ⟨w3.heap.size, k, none⟩ = some u :=
        ⟨_, (World.ownsRow.cellAt hown k (by omega)).trans (nv_get .u8 xs k (by rw [(unhide HX).1]; exact hlt))⟩
      obtain ⟨u, hcell⟩ := hcell
      have hfr := World.ownsRow.frozenAt hown k
      obtain ⟨s1, s2⟩ := World.ownsRow.stored hown k (.int .u8 (z : Int))
      have HS1 := hide s1
      have HS2 := hide s2
      have HB := hide hbw
      clear s1 s2 hbw hz hy hs hx hq hr hl
      go_wp2_with fail
      first | go_region | skip
      all_goals
        go_wp2_with fail
        go_roundw
        case rel =>
          refine ⟨k + 1, xs.set k z, by omega, by go_num, hide ⟨by rw [List.length_set]; exact (unhide HX).1, ?_⟩, by rw [nv_set]; exact unhide HS1, below_like (hbel.grown (unhide HS2) hbel.size (by simp)) rfl rfl rfl rfl⟩
          intro i hi
          rw [List.getD_eq_getElem?_getD, List.getElem?_set]
          by_cases hik : k = i
          · subst hik
            rw [if_pos rfl, if_pos (by rw [(unhide HX).1]; exact hlt), ← unhide HB]; rfl
          · rw [if_neg hik, ← List.getD_eq_getElem?_getD]
            exact (unhide HX).2 i (by omega)
        case measure => simp [intOf]; omega
    · have e2 : k = M := by omega
      subst e2
      go_wp2
      go_ret
      have ex : xs = dg 8 k X := dg_ext _ _ _ _ (unhide HX).1 (unhide HX).2
      refine ⟨_, rfl, ?_, hbel⟩
      unfold Own
      rw [nv_length, dg_length, ← ex]; exact hown
end Go.Proofs.YtcldmjjbiifejaaDoor
