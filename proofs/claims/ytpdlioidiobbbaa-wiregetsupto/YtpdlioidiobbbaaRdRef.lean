/- The reference's reader in memory, and the contract of its Uint. -/
import Derived.Test.YtpdlioidiobbbaaRd
import Derived.Deep.DeepCutAuto
import Derived.Deep.RegionWith
import Derived.Deep.QuietTactic
import Derived.WalkSmall
import Derived.BigQuiet
namespace Go.Proofs.Ytpdlioidiobbbaa
open Go.RowKit

/-- The reference's reader of v in block K: at p, with the first error e. -/
def KS (w : World) (K : Nat) (v : Value) (p e : Nat) : Prop := w.heap[K]? = some (.cells #[v, .int .i64 (p : Int), .int .i64 (e : Int)] 104 (0, 0))
theorem KS.cells {w : World} {K : Nat} {v : Value} {p e : Nat} (h : KS w K v p e) : w.cell? ⟨K, 0, none⟩ = some v ∧ w.cell? ⟨K, 1, none⟩ = some (.int .i64 (p : Int)) ∧ w.cell? ⟨K, 2, none⟩ = some (.int .i64 (e : Int)) ∧ (∀ j, w.frozen? ⟨K, j, none⟩ = false) := by
  refine ⟨?_, ?_, ?_, fun j => frozen_of_row w K j _ 104 h⟩
  · rw [cell_of_row w K 0 _ 104 (0, 0) h]; rfl
  · rw [cell_of_row w K 1 _ 104 (0, 0) h]; rfl
  · rw [cell_of_row w K 2 _ 104 (0, 0) h]; rfl
theorem grown_drewN (w : World) (n : Nat) (r : Option Nat) : w.grownBy (w.drewN n) r := ⟨rfl, rfl, rfl, Nat.le_refl _, fun _ _ _ => rfl⟩

theorem ks_at {w : World} {K : Nat} {v : Value} {p e q : Nat} {z : Int} (h : KS w K v p e) (hz : z = (q : Int)) : KS (w.setCell ⟨K, 1, none⟩ (.int .i64 z)) K v q e := by
  subst hz
  exact heap_setCell_same w K 1 _ 104 _ h
theorem ks_bad {w : World} {K : Nat} {v : Value} {p e d : Nat} {z : Int} (h : KS w K v p e) (hz : z = (d : Int)) : KS (w.setCell ⟨K, 2, none⟩ (.int .i64 z)) K v p d := by
  subst hz
  exact heap_setCell_same w K 2 _ 104 _ h

set_option maxHeartbeats 400000 in
theorem refrd_err (w : World) (K : Nat) (v : Value) (p e : Nat) (h : KS w K v p e) (he : e ≠ 0) :
    Calls Try.prog 59 #[.pointer (some ⟨K, 0, none⟩)] w fun er w' => er = .returned (.int .u64 0) ∧ w' = w := by
  obtain ⟨c0, c1, c2, f⟩ := h.cells
  have heb : ((e : Int) != 0) = true := by rw [bne_iff_ne]; omega
  clear h
  go_enter Try.func59, Try.ntmps59
  go_wp2
  go_ret
  exact ⟨rfl, rfl⟩

set_option maxRecDepth 100000 in
set_option maxHeartbeats 1600000 in
theorem refrd_ok (w : World) (K : Nat) (v : Value) (l : List UInt8) (p : Nat) (h : KS w K v p 0) (hr : Reads w v l) (hp : p ≤ l.length) :
    Calls Try.prog 59 #[.pointer (some ⟨K, 0, none⟩)] w fun er w' => er = .returned (.int .u64 (Rd.uS l p 0).1) ∧ KS w' K v (Rd.uS l p 0).2.1 (Rd.uS l p 0).2.2 ∧ w.grownBy w' (some K) := by
  obtain ⟨c0, c1, c2, f⟩ := h.cells
  obtain ⟨ao, cap, rfl, h1, h2, h3, h4⟩ := id hr
  unfold maxLen at h2
  have f1 := f 1
  have f2 := f 2
  have hcl := hr.cells.2.2.2
  have HC := hide hcl
  have HH := hide h
  clear hcl h3 h4 f h hr
  go_enter Try.func59, Try.ntmps59
  go_wp2
  go_loopw [3, 4] (fun vn vi wr => ∃ k n m : Nat, p + k ≤ l.length ∧ k ≤ 9 ∧ vi = .int .i64 k ∧ vn = .int .u64 n ∧ n < 2 ^ (7 * k) ∧ Rd.uvR (l.drop p) 0 0 = Rd.uvR (l.drop (p + k)) k n ∧ wr = w.drewN m) (fun _ vi _ => l.length - (intOf vi).toNat)
  case atStart => exact ⟨0, 0, 0, by omega, by omega, rfl, rfl, by decide, by simp, rfl⟩
  case round =>
    obtain ⟨k, n, m, hk, hk9, rfl, rfl, hn, hU, rfl⟩ := hrel
    have HU := hide hU
    have HN := hide hn
    clear hU hn
    by_cases hlt : p + k < l.length
    · obtain ⟨b, off, rfl, hcell⟩ := unhide HC (by omega)
      have hck := hcell (p + k) hlt
      have hcb := (l.getD (p + k) 0).toNat_lt
      have hx' : (l.getD (p + k) 0).toNat = l[p + k].toNat := by simp [hlt]
      have HD := hide (drop_cons l (p + k) hlt)
      clear hcell HC
      generalize (l.getD (p + k) 0).toNat = x at *
      have hq : ((p : Int) + (k : Int)) < (l.length : Int) := by omega
      by_cases h9 : k = 9
      · have hk9b : ((k : Int) == 9) = true := by rw [beq_iff_eq]; omega
        have hk0 : (0 : Int) < (k : Int) := by omega
        by_cases hx0 : x = 0
        · have hx0' : ((x : Int) == 0) = true := by rw [beq_iff_eq]; omega
          have HB := Rd.uvR_bad l[p + k] (l.drop (p + k + 1)) k n (by right; rw [← hx']; exact ⟨by omega, hx0⟩)
          have E := hide (uS_bad l _ p 12 rfl (by rw [unhide HU, unhide HD, HB]) (by decide))
          clear HB hx' h9 hx0
          go_wp2_with fail
          go_quiet (fail)
          go_wp2_with fail
          go_quiet (fail)
          go_wp2
          go_ret
          rw [unhide E]
          exact ⟨rfl, heap_setCell_same _ K 2 _ 104 (.int .i64 12) (unhide HH), grown_trans' (grown_drewN w _ _) grown_setCell⟩
        · have hx0' : ((x : Int) == 0) = false := by rw [beq_eq_false_iff_ne]; omega
          by_cases hx1 : 1 < x
          · have hx1' : (1 : Int) < (x : Int) := by omega
            have HB := Rd.uvR_bad l[p + k] (l.drop (p + k + 1)) k n (by left; rw [← hx']; exact ⟨h9, hx1⟩)
            have E := hide (uS_bad l _ p 12 rfl (by rw [unhide HU, unhide HD, HB]) (by decide))
            clear HB hx' h9 hx0 hx1
            go_wp2_with fail
            go_quiet (fail)
            go_wp2_with fail
            go_quiet (fail)
            go_wp2
            go_ret
            rw [unhide E]
            exact ⟨rfl, heap_setCell_same _ K 2 _ 104 (.int .i64 12) (unhide HH), grown_trans' (grown_drewN w _ _) grown_setCell⟩
          · have hx1' : ¬ (1 : Int) < (x : Int) := by omega
            have hx8 : (x : Int) < 128 := by omega
            have HN' := hide (or_walk n x k (unhide HN) (by omega))
            have HL := Rd.uvR_last l[p + k] (l.drop (p + k + 1)) k n (by rw [← hx']; omega) (by rw [← hx']; omega)
            rw [← hx'] at HL
            have E := hide (uS_good l _ p _ _ rfl (by rw [unhide HU, unhide HD]; exact HL))
            clear HL hx' h9 hx0 hx1
            go_wp2_with fail
            go_quiet (fail)
            go_wp2_with fail
            go_quiet (fail)
            go_wp2
            go_ret
            rw [unhide E]
            exact ⟨ret_int (unhide HN').1, ks_at (q := p + (k + 1)) (by exact unhide HH) (by omega), grown_trans' (grown_drewN w _ _) grown_setCell⟩
      · have hk9b : ((k : Int) == 9) = false := by rw [beq_eq_false_iff_ne]; omega
        by_cases hk0 : k = 0
        · have hk0' : ¬ (0 : Int) < (k : Int) := by omega
          by_cases hx8 : x < 128
          · have hx8' : (x : Int) < 128 := by omega
            have HN' := hide (or_walk n x k (unhide HN) (by omega))
            have HL := Rd.uvR_last l[p + k] (l.drop (p + k + 1)) k n (by rw [← hx']; omega) (by rw [← hx']; omega)
            rw [← hx'] at HL
            have E := hide (uS_good l _ p _ _ rfl (by rw [unhide HU, unhide HD]; exact HL))
            clear HL hx' h9 hk0 hx8
            go_wp2_with fail
            go_quiet (fail)
            go_wp2_with fail
            go_quiet (fail)
            go_wp2
            go_ret
            rw [unhide E]
            exact ⟨ret_int (unhide HN').1, ks_at (q := p + (k + 1)) (by exact unhide HH) (by omega), grown_trans' (grown_drewN w _ _) grown_setCell⟩
          · have hx8' : ¬ (x : Int) < 128 := by omega
            have HN' := hide (or_walk n x k (unhide HN) (by omega))
            have HX := hide (Rd.next_lt n (x % 128) k (unhide HN) (Nat.mod_lt _ (by decide)))
            have HM := Rd.uvR_more l[p + k] (l.drop (p + k + 1)) k n (by rw [← hx']; omega) (by rw [← hx']; omega)
            rw [← hx'] at HM
            have E := hide ((unhide HU).trans ((congrArg (fun z => Rd.uvR z k n) (unhide HD)).trans HM))
            have hk8 : k + 1 ≤ 9 := by omega
            have hkl : p + (k + 1) ≤ l.length := hlt
            clear HM hx' h9 hk0 hx8
            go_wp2_with fail
            go_quiet (fail)
            go_wp2_with fail
            go_quiet (fail)
            go_wp2
            go_roundw
            case rel => exact ⟨k + 1, _, _, hkl, hk8, by go_num, congrArg _ (unhide HN').1, unhide HX, unhide E, rfl⟩
            case measure => simp [intOf]; omega
        · have hk0' : (0 : Int) < (k : Int) := by omega
          by_cases hx0 : x = 0
          · have hx0' : ((x : Int) == 0) = true := by rw [beq_iff_eq]; omega
            have HB := Rd.uvR_bad l[p + k] (l.drop (p + k + 1)) k n (by right; rw [← hx']; exact ⟨by omega, hx0⟩)
            have E := hide (uS_bad l _ p 12 rfl (by rw [unhide HU, unhide HD, HB]) (by decide))
            clear HB hx' h9 hk0 hx0
            go_wp2_with fail
            go_quiet (fail)
            go_wp2_with fail
            go_quiet (fail)
            go_wp2
            go_ret
            rw [unhide E]
            exact ⟨rfl, heap_setCell_same _ K 2 _ 104 (.int .i64 12) (unhide HH), grown_trans' (grown_drewN w _ _) grown_setCell⟩
          · have hx0' : ((x : Int) == 0) = false := by rw [beq_eq_false_iff_ne]; omega
            by_cases hx8 : x < 128
            · have hx8' : (x : Int) < 128 := by omega
              have HN' := hide (or_walk n x k (unhide HN) (by omega))
              have HL := Rd.uvR_last l[p + k] (l.drop (p + k + 1)) k n (by rw [← hx']; omega) (by rw [← hx']; omega)
              rw [← hx'] at HL
              have E := hide (uS_good l _ p _ _ rfl (by rw [unhide HU, unhide HD]; exact HL))
              clear HL hx' h9 hk0 hx0 hx8
              go_wp2_with fail
              go_quiet (fail)
              go_wp2_with fail
              go_quiet (fail)
              go_wp2
              go_ret
              rw [unhide E]
              exact ⟨ret_int (unhide HN').1, ks_at (q := p + (k + 1)) (by exact unhide HH) (by omega), grown_trans' (grown_drewN w _ _) grown_setCell⟩
            · have hx8' : ¬ (x : Int) < 128 := by omega
              have HN' := hide (or_walk n x k (unhide HN) (by omega))
              have HX := hide (Rd.next_lt n (x % 128) k (unhide HN) (Nat.mod_lt _ (by decide)))
              have HM := Rd.uvR_more l[p + k] (l.drop (p + k + 1)) k n (by rw [← hx']; omega) (by rw [← hx']; omega)
              rw [← hx'] at HM
              have E := hide ((unhide HU).trans ((congrArg (fun z => Rd.uvR z k n) (unhide HD)).trans HM))
              have hk8 : k + 1 ≤ 9 := by omega
              have hkl : p + (k + 1) ≤ l.length := hlt
              clear HM hx' h9 hk0 hx0 hx8
              go_wp2_with fail
              go_quiet (fail)
              go_wp2_with fail
              go_quiet (fail)
              go_wp2
              go_roundw
              case rel => exact ⟨k + 1, _, _, hkl, hk8, by go_num, congrArg _ (unhide HN').1, unhide HX, unhide E, rfl⟩
              case measure => simp [intOf]; omega
    · have hq : ¬ ((p : Int) + (k : Int)) < (l.length : Int) := by omega
      have E := hide (uS_bad l _ p 10 rfl (by rw [unhide HU, List.drop_of_length_le (by omega)]; rfl) (by decide))
      go_wp2_with fail
      go_quiet (fail)
      go_wp2
      go_ret
      rw [unhide E]
      exact ⟨rfl, heap_setCell_same _ K 2 _ 104 (.int .i64 10) (unhide HH), grown_trans' (grown_drewN w _ _) grown_setCell⟩

theorem refrd_any (w : World) (K : Nat) (v : Value) (l : List UInt8) (p e : Nat) (h : KS w K v p e) (hr : Reads w v l) (hp : p ≤ l.length) :
    Calls Try.prog 59 #[.pointer (some ⟨K, 0, none⟩)] w fun er w' => er = .returned (.int .u64 (Rd.uS l p e).1) ∧ KS w' K v (Rd.uS l p e).2.1 (Rd.uS l p e).2.2 ∧ w.grownBy w' (some K) := by
  by_cases he : e = 0
  · subst he
    exact refrd_ok w K v l p h hr hp
  · have e1 : Rd.uS l p e = (0, p, e) := by unfold Rd.uS; rw [if_pos he]
    rw [e1]
    refine (refrd_err w K v p e h he).mono ?_
    rintro er w' ⟨rfl, rfl⟩
    exact ⟨rfl, h, World.grownBy.refl _ _⟩
end Go.Proofs.Ytpdlioidiobbbaa
