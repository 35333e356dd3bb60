/- Contracts of Unframe: bytes that are no frame, and one that is. -/
import Derived.Test.YthegdhbmfojdaaaWFrame
import Derived.Deep.QuietTactic
import Derived.BigQuiet
import Derived.WalkSmall
import Derived.Outline
namespace Go.Proofs.Ythegdhbmfojdaaa.Wi
open Go.RowKit

theorem At.rest {w : World} {b off : Nat} {l : List UInt8} (h : At w b off l) (i : Nat) : At w b (off + i) (l.drop i) := by
  have := h.part i (l.drop i).length
  rwa [List.take_of_length_le (Nat.le_refl _)] at this
theorem At.cell {w : World} {b off : Nat} {l : List UInt8} (h : At w b off l) (i : Nat) (hi : i < l.length) : w.cell? ⟨b, off + i, none⟩ = some (.int .u8 ((l.getD i 0).toNat : Int)) := h i _ (bv_get l i hi)

set_option maxRecDepth 100000 in
set_option maxHeartbeats 400000 in
theorem unframe_short (w : World) (v : Value) (l : List UInt8) (h : Reads w v l) (hl : l.length < 8) :
    Calls Try.prog 48 #[v] w fun e w' => e = .returned (.tuple #[.slice none 0 0, .int .i64 10]) ∧ w' = w := by
  obtain ⟨ao, cap, rfl, h1, h2, h3, h4⟩ := h
  have hl' : (l.length : Int) < 8 := by omega
  go_enter Try.func48, Try.ntmps48
  go_wp2
  go_ret2
  exact ⟨rfl, rfl⟩

set_option maxRecDepth 100000 in
set_option maxHeartbeats 800000 in
theorem unframe_form (w : World) (l : List UInt8) (b off cap : Nat) (h : At w b off l) (hc : l.length ≤ cap) (hm : cap ≤ maxLen) (hl : 8 ≤ l.length) (hb : l.length ≤ 2 ^ 63 - 1)
    (hbad : Four.num ((l.drop 4).take 4) ≠ l.length - 8 ∨ 1048576 < l.length - 8) :
    Calls Try.prog 48 #[.slice (some ⟨b, off, none⟩) l.length cap] w fun e w' => e = .returned (.tuple #[.slice none 0 0, .int .i64 12]) ∧ w' = w := by
  have hl' : ¬ (l.length : Int) < 8 := by omega
  have hl4 : ((l.drop 4).take 4).length = 4 := by simp; omega
  have hc4 : ¬ cap = 4 := by omega
  unfold maxLen at hm
  have h4 := h.part 4 4
  have hlt := Four.num_lt _ hl4
  have hf := fun (w : World) (c : Nat) (h4 : At w b (off + 4) ((l.drop 4).take 4)) => four_any w ((l.drop 4).take 4) b (off + 4) c hl4 (fun i hi => h4.cell i hi)
  generalize Four.num ((l.drop 4).take 4) = N at hbad hlt hf
  have HF := hide hf
  clear hf
  by_cases ht : N = l.length - 8
  · have hd : ((N : Int) != (l.length : Int) - 8) = false := by rw [bne_eq_false_iff_eq]; omega
    have hg : (1048576 : Int) < (l.length : Int) - 8 := by omega
    clear ht hbad
    go_enter Try.func48, Try.ntmps48
    go_wp2_with (first
      | (go_at_call 80; refine (unhide HF _ _ h4).mono ?_; rintro e w' ⟨rfl, rfl⟩))
    go_ret2
    exact ⟨rfl, rfl⟩
  · have hd : ((N : Int) != (l.length : Int) - 8) = true := by rw [bne_iff_ne]; omega
    clear ht hbad
    go_enter Try.func48, Try.ntmps48
    go_wp2_with (first
      | (go_at_call 80; refine (unhide HF _ _ h4).mono ?_; rintro e w' ⟨rfl, rfl⟩))
    go_ret2
    exact ⟨rfl, rfl⟩

set_option maxRecDepth 100000 in
set_option maxHeartbeats 800000 in
theorem unframe_sum (w : World) (l : List UInt8) (b off cap : Nat) (h : At w b off l) (hc : l.length ≤ cap) (hm : cap ≤ maxLen) (hl : 8 ≤ l.length) (hb : l.length ≤ 1048584)
    (ht : Four.num ((l.drop 4).take 4) = l.length - 8) (hs : Four.num (l.take 4) ≠ Crc.sum (l.drop 4)) :
    Calls Try.prog 48 #[.slice (some ⟨b, off, none⟩) l.length cap] w fun e w' => e = .returned (.tuple #[.slice none 0 0, .int .i64 11]) ∧ ∃ n, w' = w.drewN n := by
  have hl' : ¬ (l.length : Int) < 8 := by omega
  have hl4 : ((l.drop 4).take 4).length = 4 := by simp; omega
  have hl0 : (l.take 4).length = 4 := by simp; omega
  have hc4 : ¬ cap = 4 := by omega
  have hr4 := fun (w : World) (h : At w b off l) => (h.rest 4).reads (c := cap - 4) (by simp; omega) (by omega) (l.length - 4) (by simp)
  unfold maxLen at hm
  have h4 := h.part 4 4
  have h0 := h.part 0 4
  simp only [List.drop_zero, Nat.add_zero] at h0
  have hlt := Four.num_lt _ hl4
  have hlt0 := Four.num_lt _ hl0
  have hst := Crc.sum_lt (l.drop 4)
  have hf := fun (w : World) (c : Nat) (h4 : At w b (off + 4) ((l.drop 4).take 4)) => four_any w ((l.drop 4).take 4) b (off + 4) c hl4 (fun i hi => h4.cell i hi)
  have hf0 := fun (w : World) (c : Nat) (h4 : At w b off (l.take 4)) => four_any w (l.take 4) b off c hl0 (fun i hi => h4.cell i hi)
  have hsm := fun (w : World) (h : At w b off l) => sum_any w _ (l.drop 4) (hr4 w h)
  generalize Four.num ((l.drop 4).take 4) = N at ht hlt hf
  generalize Four.num (l.take 4) = M at hs hlt0 hf0
  generalize Crc.sum (l.drop 4) = S at hs hst hsm
  have HF := hide hf
  have HF0 := hide hf0
  have HS := hide hsm
  clear hf hf0 hsm hr4
  have hd : ((N : Int) != (l.length : Int) - 8) = false := by rw [bne_eq_false_iff_eq]; omega
  have hg : ¬ (1048576 : Int) < (l.length : Int) - 8 := by omega
  have hds : ((M : Int) != (S : Int)) = true := by rw [bne_iff_ne]; omega
  clear ht hs
  go_enter Try.func48, Try.ntmps48
  go_wp2_with (first
    | (go_at_call 80; refine (unhide HF _ _ h4).mono ?_; rintro e w' ⟨rfl, rfl⟩))
  go_quiet (first | (go_at_call 80; exact Calls.quiet_of_same (unhide HF0 _ _ h0)) | (go_at_call 76; exact Calls.quiet_of_same (unhide HS _ h)))
  go_wp2
  go_ret2
  exact ⟨rfl, _, rfl⟩

set_option maxRecDepth 100000 in
set_option maxHeartbeats 800000 in
theorem unframe_some (w : World) (l : List UInt8) (b off cap : Nat) (h : At w b off l) (hc : l.length ≤ cap) (hm : cap ≤ maxLen) (hl : 8 < l.length) (hb : l.length ≤ 1048584)
    (ht : Four.num ((l.drop 4).take 4) = l.length - 8) (hs : Four.num (l.take 4) = Crc.sum (l.drop 4)) :
    Calls Try.prog 48 #[.slice (some ⟨b, off, none⟩) l.length cap] w fun e w' => ∃ v', e = .returned (.tuple #[v', .int .i64 0]) ∧ Owns w' w.heap.size v' (l.drop 8) ∧ Below w.heap.size w w' := by
  have hl' : ¬ (l.length : Int) < 8 := by omega
  have hl4 : ((l.drop 4).take 4).length = 4 := by simp; omega
  have hl0 : (l.take 4).length = 4 := by simp; omega
  have hc4 : ¬ cap = 4 := by omega
  have hr4 := fun (w : World) (h : At w b off l) => (h.rest 4).reads (c := cap - 4) (by simp; omega) (by omega) (l.length - 4) (by simp)
  unfold maxLen at hm
  have h4 := h.part 4 4
  have h0 := h.part 0 4
  simp only [List.drop_zero, Nat.add_zero] at h0
  have hlt := Four.num_lt _ hl4
  have hlt0 := Four.num_lt _ hl0
  have hst := Crc.sum_lt (l.drop 4)
  have hf := fun (w : World) (c : Nat) (h4 : At w b (off + 4) ((l.drop 4).take 4)) => four_any w ((l.drop 4).take 4) b (off + 4) c hl4 (fun i hi => h4.cell i hi)
  have hf0 := fun (w : World) (c : Nat) (h4 : At w b off (l.take 4)) => four_any w (l.take 4) b off c hl0 (fun i hi => h4.cell i hi)
  have hsm := fun (w : World) (h : At w b off l) => sum_any w _ (l.drop 4) (hr4 w h)
  generalize Four.num ((l.drop 4).take 4) = N at ht hlt hf
  generalize Four.num (l.take 4) = M at hs hlt0 hf0
  generalize Crc.sum (l.drop 4) = S at hs hst hsm
  have HF := hide hf
  have HF0 := hide hf0
  have HS := hide hsm
  clear hf hf0 hsm hr4
  have hd : ((N : Int) != (l.length : Int) - 8) = false := by rw [bne_eq_false_iff_eq]; omega
  have hg : ¬ (1048576 : Int) < (l.length : Int) - 8 := by omega
  have hds : ((M : Int) != (S : Int)) = false := by rw [bne_eq_false_iff_eq]; omega
  have hc8 : ¬ cap = 8 := by omega
  have h8 := h.rest 8
  obtain ⟨i0, hi, hz0, hz1, hz2⟩ := info_parts Try.info5
  clear ht hs
  go_enter Try.func48, Try.ntmps48
  go_wp2_with (first
    | (go_at_call 80; refine (unhide HF _ _ h4).mono ?_; rintro e w ⟨rfl, rfl⟩))
  go_quiet (first | (go_at_call 80; exact Calls.quiet_of_same (unhide HF0 _ _ h0)) | (go_at_call 76; exact Calls.quiet_of_same (unhide HS _ h)))
  have hbq : Below w.heap.size w (w.drewN nq) := below_drewN (Below.refl _ _) nq
  go_wp2_with (first
    | (at_make; refine wpList_make_full _ rfl _ _ 33 rfl w.heap.size 5 i0 (.int .u8 0) 1 Try.underlying33 hi hz0 hz1 .i64 .i64 _ _ (l.length - 8) rfl rfl (by omega) (by omega) (by rw [hz2]; omega) (by unfold maxLen; omega) (Nat.le_refl _) ?_; intro w1 hown0 hgrow1; rw [made_bv] at hown0; have hown1 : w1.ownsRow w.heap.size 5 1 (.slice (some ⟨w.heap.size, 0, none⟩) (l.length - 8) (l.length - 8)) (l.length - 8) (bv (List.replicate (l.length - 8) 0)) := hown0; clear hown0; obtain ⟨w2, hcp, hown2, hgrow2⟩ := copy_owned hown1 0 ⟨b, off + 8, none⟩ (cap - 8) (l.length - 8) (l.length - 8) (l.drop 8) (fun j u hj => by rw [Addr.add_lit]; exact hgrow1.cell (h8 j u hj) (by simp)) (by simp) (by simp); simp only [List.length_drop] at hcp))
  go_ret2
  have e8 : splice (bv (List.replicate (l.length - 8) 0)) 0 (bv (l.drop 8)) = bv (l.drop 8) := by
    simp [splice, bv]
  rw [e8] at hown2
  refine ⟨_, rfl, ?_, (hbq.grown hgrow1 (Nat.le_refl _) (by simp)).grown hgrow2 hgrow1.size (by simp)⟩
  unfold Owns
  rw [List.length_drop]
  exact hown2

set_option maxRecDepth 100000 in
set_option maxHeartbeats 800000 in
theorem unframe_eight (w : World) (l : List UInt8) (b off cap : Nat) (h : At w b off l) (hc : l.length ≤ cap) (hm : cap ≤ maxLen) (hl : 8 ≤ l.length) (hb : l.length ≤ 8)
    (ht : Four.num ((l.drop 4).take 4) = l.length - 8) (hs : Four.num (l.take 4) = Crc.sum (l.drop 4)) :
    Calls Try.prog 48 #[.slice (some ⟨b, off, none⟩) l.length cap] w fun e w' => ∃ v', e = .returned (.tuple #[v', .int .i64 0]) ∧ Owns w' w.heap.size v' (l.drop 8) ∧ Below w.heap.size w w' := by
  have hl' : ¬ (l.length : Int) < 8 := by omega
  have hl4 : ((l.drop 4).take 4).length = 4 := by simp; omega
  have hl0 : (l.take 4).length = 4 := by simp; omega
  have hc4 : ¬ cap = 4 := by omega
  have hr4 := fun (w : World) (h : At w b off l) => (h.rest 4).reads (c := cap - 4) (by simp; omega) (by omega) (l.length - 4) (by simp)
  unfold maxLen at hm
  have h4 := h.part 4 4
  have h0 := h.part 0 4
  simp only [List.drop_zero, Nat.add_zero] at h0
  have hlt := Four.num_lt _ hl4
  have hlt0 := Four.num_lt _ hl0
  have hst := Crc.sum_lt (l.drop 4)
  have hf := fun (w : World) (c : Nat) (h4 : At w b (off + 4) ((l.drop 4).take 4)) => four_any w ((l.drop 4).take 4) b (off + 4) c hl4 (fun i hi => h4.cell i hi)
  have hf0 := fun (w : World) (c : Nat) (h4 : At w b off (l.take 4)) => four_any w (l.take 4) b off c hl0 (fun i hi => h4.cell i hi)
  have hsm := fun (w : World) (h : At w b off l) => sum_any w _ (l.drop 4) (hr4 w h)
  generalize Four.num ((l.drop 4).take 4) = N at ht hlt hf
  generalize Four.num (l.take 4) = M at hs hlt0 hf0
  generalize Crc.sum (l.drop 4) = S at hs hst hsm
  have HF := hide hf
  have HF0 := hide hf0
  have HS := hide hsm
  clear hf hf0 hsm hr4
  have hd : ((N : Int) != (l.length : Int) - 8) = false := by rw [bne_eq_false_iff_eq]; omega
  have hg : ¬ (1048576 : Int) < (l.length : Int) - 8 := by omega
  have hds : ((M : Int) != (S : Int)) = false := by rw [bne_eq_false_iff_eq]; omega
  have hcp := fun (w1 : World) (d a : Option Addr) (dc sc : Nat) => run_copy_none (P := Try.prog) w1 33 33 3 5 d a 0 dc 0 sc Try.underlying33 (by kernel_rfl) rfl
  obtain ⟨i0, hi, hz0, hz1, hz2⟩ := info_parts Try.info5
  clear ht hs
  go_enter Try.func48, Try.ntmps48
  go_wp2_with (first
    | (go_at_call 80; refine (unhide HF _ _ h4).mono ?_; rintro e w ⟨rfl, rfl⟩))
  go_quiet (first | (go_at_call 80; exact Calls.quiet_of_same (unhide HF0 _ _ h0)) | (go_at_call 76; exact Calls.quiet_of_same (unhide HS _ h)))
  have hbq : Below w.heap.size w (w.drewN nq) := below_drewN (Below.refl _ _) nq
  go_wp2_with (first
    | (at_make; refine wpList_make_full _ rfl _ _ 33 rfl w.heap.size 5 i0 (.int .u8 0) 1 Try.underlying33 hi hz0 hz1 .i64 .i64 _ _ (l.length - 8) rfl rfl (by omega) (by omega) (by rw [hz2]; omega) (by unfold maxLen; omega) (Nat.le_refl _) ?_; intro w1 hown0 hgrow1; rw [made_bv] at hown0))
  all_goals
    go_ret2
    have e8 : l.drop 8 = List.replicate (l.length - 8) 0 := by
      have : l.length - 8 = 0 := by omega
      rw [this, List.drop_of_length_le (by omega)]; rfl
    refine ⟨_, rfl, ?_, hbq.grown hgrow1 (Nat.le_refl _) (by simp)⟩
    unfold Owns
    rw [e8, List.length_replicate]
    have e0 : l.length - 8 = 0 := by omega
    rw [e0] at hown0 ⊢
    exact hown0

/-- What Unframe answers: an error, or the body. -/
def unf (l : List UInt8) : Nat :=
  if l.length < 8 then 10 else if Four.num ((l.drop 4).take 4) ≠ l.length - 8 ∨ 1048576 < l.length - 8 then 12 else if Four.num (l.take 4) ≠ Crc.sum (l.drop 4) then 11 else 0

theorem drewN_below (w : World) (n : Nat) : Below w.heap.size w (w.drewN n) := below_drewN (Below.refl _ _) n

theorem unframe_bad (w : World) (v : Value) (l : List UInt8) (h : Reads w v l) (hb : l.length ≤ 2 ^ 63 - 1) (hu : unf l ≠ 0) :
    Calls Try.prog 48 #[v] w fun e w' => e = .returned (.tuple #[.slice none 0 0, .int .i64 (unf l : Nat)]) ∧ Below w.heap.size w w' := by
  by_cases h8 : l.length < 8
  · have e : unf l = 10 := by simp [unf, h8]
    rw [e]
    refine (unframe_short w v l h h8).mono ?_
    rintro e w' ⟨rfl, rfl⟩
    exact ⟨rfl, Below.refl _ _⟩
  · obtain ⟨ao, cap, rfl, _⟩ := id h
    obtain ⟨_, h1, h2, h3⟩ := h.cells
    obtain ⟨b, off, rfl, hc⟩ := h3 (by omega)
    have hat : At w b off l := by
      intro j u hj
      obtain ⟨hh, _⟩ := List.getElem?_eq_some_iff.1 hj
      rw [bv_length] at hh
      rw [bv_get l j hh] at hj
      rw [hc j hh]; exact hj
    by_cases hf : Four.num ((l.drop 4).take 4) ≠ l.length - 8 ∨ 1048576 < l.length - 8
    · have e : unf l = 12 := by unfold unf; rw [if_neg h8, if_pos hf]
      rw [e]
      refine (unframe_form w l b off cap hat h1 h2 (by omega) hb hf).mono ?_
      rintro e w' ⟨rfl, rfl⟩
      exact ⟨rfl, Below.refl _ _⟩
    · by_cases hs : Four.num (l.take 4) ≠ Crc.sum (l.drop 4)
      · have e : unf l = 11 := by unfold unf; rw [if_neg h8, if_neg hf, if_pos hs]
        rw [e]
        refine (unframe_sum w l b off cap hat h1 h2 (by omega) (by omega) (by omega) hs).mono ?_
        rintro e w' ⟨rfl, n, rfl⟩
        exact ⟨rfl, drewN_below w n⟩
      · exact absurd (by unfold unf; rw [if_neg h8, if_neg hf, if_neg hs]) hu

theorem unframe_ok (w : World) (v : Value) (l : List UInt8) (h : Reads w v l) (hu : unf l = 0) :
    Calls Try.prog 48 #[v] w fun e w' => ∃ v', e = .returned (.tuple #[v', .int .i64 0]) ∧ Owns w' w.heap.size v' (l.drop 8) ∧ Below w.heap.size w w' := by
  unfold unf at hu
  by_cases h8 : l.length < 8
  · rw [if_pos h8] at hu; cases hu
  rw [if_neg h8] at hu
  by_cases hf : Four.num ((l.drop 4).take 4) ≠ l.length - 8 ∨ 1048576 < l.length - 8
  · rw [if_pos hf] at hu; cases hu
  rw [if_neg hf] at hu
  by_cases hs : Four.num (l.take 4) ≠ Crc.sum (l.drop 4)
  · rw [if_pos hs] at hu; cases hu
  obtain ⟨ao, cap, rfl, _⟩ := id h
  obtain ⟨_, h1, h2, h3⟩ := h.cells
  obtain ⟨b, off, rfl, hc⟩ := h3 (by omega)
  have hat : At w b off l := by
    intro j u hj
    obtain ⟨hh, _⟩ := List.getElem?_eq_some_iff.1 hj
    rw [bv_length] at hh
    rw [bv_get l j hh] at hj
    rw [hc j hh]; exact hj
  by_cases h9 : 8 < l.length
  · exact unframe_some w l b off cap hat h1 h2 h9 (by omega) (by omega) (by omega)
  · exact unframe_eight w l b off cap hat h1 h2 (by omega) (by omega) (by omega) (by omega)

end Go.Proofs.Ythegdhbmfojdaaa.Wi
