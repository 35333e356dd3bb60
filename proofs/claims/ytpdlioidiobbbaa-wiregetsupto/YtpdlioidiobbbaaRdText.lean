/- Contracts of the readers' Text, the program's and the reference's. -/
import Derived.Test.YtpdlioidiobbbaaRdCount
namespace Go.Proofs.Ytpdlioidiobbbaa
open Go.RowKit

/-- What Text answers, where the reader is then, and its first error. -/
def tS (l : List UInt8) (p e : Nat) : List UInt8 × Nat × Nat :=
  if (cS l p e 1).2.2 ≠ 0 then ([], (cS l p e 1).2.1, (cS l p e 1).2.2) else ((l.drop (cS l p e 1).2.1).take (cS l p e 1).1, (cS l p e 1).2.1 + (cS l p e 1).1, 0)
theorem cS_facts (l : List UInt8) (p e : Nat) (least : Int) (hp : p ≤ l.length) : (cS l p e least).2.1 ≤ l.length ∧ ((cS l p e least).2.2 ≠ 0 → (cS l p e least).1 = 0) ∧ ((cS l p e least).2.2 = 0 → (cS l p e least).2.1 + (cS l p e least).1 ≤ l.length) := by
  have h1 := Rd.uS_le l p e hp
  have h0 := uS_err0 l p e
  unfold cS
  split
  · exact ⟨h1, fun _ => rfl, fun h => by cases h⟩
  · rename_i hn
    refine ⟨h1, h0, fun he => ?_⟩
    have hlim := lim_le (lf l (Rd.uS l p e).2.1 0) least
    have : lf l (Rd.uS l p e).2.1 0 = l.length - (Rd.uS l p e).2.1 := rfl
    have : ¬ lim (lf l (Rd.uS l p e).2.1 0) least < (Rd.uS l p e).1 := fun hh => hn ⟨he, hh⟩
    omega

theorem conv_empty (w : World) (x : Option Addr) (c : Nat) : (convert 49 9 (.slice x 0 c)).run Try.prog w = .ok (.string ⟨#[]⟩) w := by
  cases x with
  | none => exact run_convert_bytes_nil w 49 5 Try.underlying49 Try.underlying5 0 c 9 Try.underlying9
  | some ad =>
    have hl : (loadCells ad 0).run Try.prog w = .ok ((([] : List Int)).map (Value.int .u8)).toArray w := run_loadCells_list (P := Try.prog) w ad [] (fun j u hj => by simp at hj)
    rw [run_convert_bytes_string w 49 9 5 _ _ _ Try.underlying49 Try.underlying5 Try.underlying9, run_bytesToString w ad 0 c _ hl]
    rfl

theorem text_ps {B R p n : Nat} {w : World} {l s : List UInt8} {lv u : Value} (hB : B ≤ R) (hp : p + n ≤ l.length) (hs : l.drop p = s) (hh : w.heap[R]? = some (.cells #[lv, .int .i64 ((0 : Nat) : Int)] 136 (0, 0)))
    (hr : ReadsB B w u (s.drop n)) : PS B (w.setCell ⟨R, 0, none⟩ u) R l (p + n) 0 := by
  refine ⟨hB, hp, u, heap_setCell_same w R 0 _ 136 u hh, ?_, fun h => absurd rfl h⟩
  rw [if_pos rfl, ← List.drop_drop, hs]
  exact hr.keep ((Below.refl _ _).setCell (p := ⟨R, 0, none⟩) hB u)

set_option maxRecDepth 100000 in
set_option maxHeartbeats 800000 in
theorem text_p (B : Nat) (w : World) (R : Nat) (l : List UInt8) (p e : Nat) (h : PS B w R l p e) (hlb : l.length ≤ 2 ^ 63 - 1) :
    Calls Try.prog 96 #[.pointer (some ⟨R, 0, none⟩)] w fun er w' => er = .returned (.string ⟨(tS l p e).1.toArray⟩) ∧ PS B w' R l (tS l p e).2.1 (tS l p e).2.2 ∧ w.grownBy w' (some R) := by
  obtain ⟨hp1, hz, hnz⟩ := cS_facts l p e 1 h.2.1
  have hts : tS l p e = if (cS l p e 1).2.2 ≠ 0 then ([], (cS l p e 1).2.1, (cS l p e 1).2.2) else ((l.drop (cS l p e 1).2.1).take (cS l p e 1).1, (cS l p e 1).2.1 + (cS l p e 1).1, 0) := rfl
  go_enter Try.func96, Try.ntmps96
  go_wp2_with fail
  refine (count_p B w R l p e 1 h (by omega) (by omega) hlb).mono ?_
  rintro er w1 ⟨rfl, h1, g1⟩
  obtain ⟨⟨n, p1, e1⟩, hx⟩ : ∃ x, cS l p e 1 = x := ⟨_, rfl⟩
  rw [hx] at hp1 hz hnz hts h1 ⊢
  simp only at hp1 hz hnz hts h1 ⊢
  have HTS := hide hts
  clear hx hts h
  by_cases hn : n = 0
  · subst hn
    have e2 : tS l p e = ([], p1, e1) := by
      rw [unhide HTS]
      split
      · rfl
      · rename_i he
        have : e1 = 0 := by omega
        subst this
        simp
    have E2 := hide e2
    clear e2 HTS
    go_wp2
    go_ret
    rw [unhide E2]
    exact ⟨rfl, h1, g1⟩
  · have he1 : e1 = 0 := by
      by_cases he : e1 = 0
      · exact he
      · exact absurd (hz he) hn
    subst he1
    have e2 : tS l p e = ((l.drop p1).take n, p1 + n, 0) := by rw [unhide HTS, if_neg (by simp)]
    have E2 := hide e2
    have hnl := hnz rfl
    have hB := h1.1
    obtain ⟨a, c, hh, hr, hc1, hc2⟩ := h1.shape
    rw [if_pos rfl] at hr
    have hLe : lf l p1 0 = l.length - p1 := rfl
    rw [hLe] at hh hr hc1
    have hrl : (l.drop p1).length = l.length - p1 := List.length_drop
    obtain ⟨b, off, rfl, hcl⟩ := hr.1.cells.2.2.2 (by omega)
    have hat : At w1 b off (l.drop p1) := by
      intro j u hj
      obtain ⟨hj1, _⟩ := List.getElem?_eq_some_iff.1 hj
      rw [bv_length] at hj1
      rw [bv_get _ j hj1] at hj
      rw [hcl j hj1]; exact hj
    have hcv := conv_string w1 (.slice (some ⟨b, off, none⟩) n c) ((l.drop p1).take n) ((show At w1 b off ((l.drop p1).take n) from hat.part 0 n).reads (by simp; omega) hc2 n (by simp; omega))
    have c0 : w1.cell? ⟨R, 0, none⟩ = some (.slice (some ⟨b, off, none⟩) (l.length - p1) c) := by rw [cell_of_row w1 R 0 _ 136 (0, 0) hh]; rfl
    have f0 : w1.frozen? ⟨R, 0, none⟩ = false := frozen_of_row w1 R 0 _ 136 hh
    have HH := hide hh
    have HR := hide hr
    have hnb : ((n : Int) == 0) = false := by rw [beq_eq_false_iff_ne]; omega
    have hn1 : 0 < n := by omega
    unfold maxLen at hc2
    clear hz hnz HTS h1 hh hr hcl hat e2 hn hLe
    obtain ⟨s, hs⟩ : ∃ s, l.drop p1 = s := ⟨_, rfl⟩
    obtain ⟨N, hN⟩ : ∃ N, l.length - p1 = N := ⟨_, rfl⟩
    rw [hs] at hrl HR hcv E2
    rw [hN] at hrl HR c0 HH hc1
    have hNn : n ≤ N := by omega
    have HS := hide hs
    have HRL := hide hrl
    have HP := hide hnl
    clear hs hN hrl hnl
    go_wp2
    · go_ret
      rw [unhide E2]
      have hl := unhide HRL
      exact ⟨rfl, text_ps hB (unhide HP) (unhide HS) (unhide HH) (ReadsB.cut_end n _ _ _ (by omega) (by omega) (by omega)), grown_trans' g1 grown_setCell⟩
    · go_ret
      rw [unhide E2]
      have hl := unhide HRL
      exact ⟨rfl, text_ps hB (unhide HP) (unhide HS) (unhide HH) ((unhide HR).cut_mid n _ _ (by omega) (by omega) (by omega)), grown_trans' g1 grown_setCell⟩

theorem conv_drewN (w : World) (v : Value) (l : List UInt8) (h : Reads w v l) (n : Nat) : (convert 49 9 v).run Try.prog (w.drewN n) = .ok (.string ⟨l.toArray⟩) (w.drewN n) := conv_string (w.drewN n) v l h

set_option maxRecDepth 100000 in
set_option maxHeartbeats 1600000 in
theorem text_k (w : World) (K : Nat) (v : Value) (l : List UInt8) (p e : Nat) (h : KS w K v p e) (hK : ∀ w', w.grownBy w' (some K) → Reads w' v l) (hp : p ≤ l.length) (hlb : l.length ≤ 2 ^ 63 - 1) :
    Calls Try.prog 109 #[.pointer (some ⟨K, 0, none⟩)] w fun er w' => er = .returned (.string ⟨(tS l p e).1.toArray⟩) ∧ KS w' K v (tS l p e).2.1 (tS l p e).2.2 ∧ w.grownBy w' (some K) := by
  obtain ⟨hp1, hz, hnz⟩ := cS_facts l p e 1 hp
  have hts : tS l p e = if (cS l p e 1).2.2 ≠ 0 then ([], (cS l p e 1).2.1, (cS l p e 1).2.2) else ((l.drop (cS l p e 1).2.1).take (cS l p e 1).1, (cS l p e 1).2.1 + (cS l p e 1).1, 0) := rfl
  go_enter Try.func109, Try.ntmps109
  go_wp2_with fail
  refine (count_k w K v l p e 1 h hK hp (by omega) (by omega) hlb).mono ?_
  rintro er w1 ⟨rfl, h1, g1⟩
  obtain ⟨⟨n, p1, e1⟩, hx⟩ : ∃ x, cS l p e 1 = x := ⟨_, rfl⟩
  rw [hx] at hp1 hz hnz hts h1 ⊢
  simp only at hp1 hz hnz hts h1 ⊢
  have hr := hK w1 g1
  have HTS := hide hts
  obtain ⟨c0, c1, c2, f⟩ := h1.cells
  have f1 := f 1
  have HH := hide h1
  clear hx hts h hK f h1
  by_cases he : e1 = 0
  · subst he
    have e2 : tS l p e = ((l.drop p1).take n, p1 + n, 0) := by rw [unhide HTS, if_neg (by simp)]
    have E2 := hide e2
    have hnl := hnz rfl
    clear hz hnz HTS e2
    have hi1 : (p1 : Int) + (n : Int) ≤ (l.length : Int) := by omega
    by_cases hlt : p1 < l.length
    · obtain ⟨ao, cap, rfl, q1, q2, q3, q4⟩ := id hr
      obtain ⟨b, off, rfl, hcl⟩ := hr.cells.2.2.2 (by omega)
      have hat : At w1 b off l := by
        intro j u hj
        obtain ⟨hj1, _⟩ := List.getElem?_eq_some_iff.1 hj
        rw [bv_length] at hj1
        rw [bv_get _ j hj1] at hj
        rw [hcl j hj1]; exact hj
      have hcv := conv_drewN w1 (.slice (some ⟨b, off + p1, none⟩) n (cap - p1)) ((l.drop p1).take n) ((hat.part p1 n).reads (by simp; omega) (by omega) n (by simp; omega))
      have hcp : ¬ cap = p1 := by omega
      unfold maxLen at q2
      clear q3 q4 hr hcl hat
      go_wp2_with fail
      go_quiet (fail)
      go_wp2
      go_ret
      rw [unhide E2]
      exact ⟨rfl, ks_at (w := w1.drewN nq) (q := p1 + n) (unhide HH) (by omega), grown_trans' g1 (grown_trans' (grown_drewN _ _ _) grown_setCell)⟩
    · obtain rfl : n = 0 := by omega
      obtain rfl : p1 = l.length := by omega
      have e3 : tS l p e = ([], l.length, 0) := by rw [unhide E2]; simp
      have E3 := hide e3
      have hce := conv_empty
      obtain ⟨ao, cap, rfl, q1, q2, q3, q4⟩ := id hr
      unfold maxLen at q2
      clear q4 hr e3 E2 hlt
      cases ao with
      | none =>
        obtain ⟨z1, rfl⟩ := q3 rfl
        rw [z1] at c0 c1 HH
        have HZ := hide z1
        clear q3 z1 hi1 hnl hp1 q1
        go_wp2_with fail
        go_quiet (fail)
        go_wp2
        go_ret
        rw [unhide E3, unhide HZ]
        exact ⟨rfl, ks_at (w := w1.drewN nq) (q := 0) (unhide HH) (by omega), grown_trans' g1 (grown_trans' (grown_drewN _ _ _) grown_setCell)⟩
      | some ad =>
        clear q3
        by_cases hcp : cap = l.length
        · subst hcp
          clear q1
          go_wp2_with fail
          go_quiet (fail)
          go_wp2
          go_ret
          rw [unhide E3]
          exact ⟨rfl, ks_at (w := w1.drewN nq) (q := l.length) (unhide HH) (by omega), grown_trans' g1 (grown_trans' (grown_drewN _ _ _) grown_setCell)⟩
        · go_wp2_with fail
          go_quiet (fail)
          go_wp2
          go_ret
          rw [unhide E3]
          exact ⟨rfl, ks_at (w := w1.drewN nq) (q := l.length) (unhide HH) (by omega), grown_trans' g1 (grown_trans' (grown_drewN _ _ _) grown_setCell)⟩
  · have heb : ((e1 : Int) != 0) = true := by rw [bne_iff_ne]; omega
    have e2 : tS l p e = ([], p1, e1) := by rw [unhide HTS, if_pos he]
    have E2 := hide e2
    clear hz hnz HTS e2
    go_wp2
    go_ret
    rw [unhide E2]
    exact ⟨rfl, unhide HH, g1⟩
end Go.Proofs.Ytpdlioidiobbbaa
