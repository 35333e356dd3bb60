/- Contracts of rise, tooLong, the library's ContainsFunc. -/
import Derived.Test.YtkoihniggoelnaaMayS
import Derived.Shelf.SlicesE.IndexFunc
import Derived.BigQuiet
namespace Go.Proofs.Ytkoihniggoelnaa
open Go.Shelf Go.RowKit Go.Sort

def riseL : List Str → Bool
  | a :: b :: l => Op.bytesLess a b && riseL (b :: l)
  | _ => true
theorem riseL_iff : ∀ (l : List Str), riseL l = true ↔ ∀ j, j + 1 < l.length → Op.bytesLess (l.getD j []) (l.getD (j + 1) []) = true
  | [] => by simp [riseL]
  | [a] => by simp [riseL]
  | a :: b :: l => by
    have ih := riseL_iff (b :: l)
    rw [riseL, Bool.and_eq_true, ih]
    constructor
    · rintro ⟨h1, h2⟩ j hj
      cases j with
      | zero => simpa using h1
      | succ j => have := h2 j (by simpa using hj); simpa using this
    · intro h
      refine ⟨by have := h 0 (by simp); simpa using this, fun j hj => ?_⟩
      have := h (j + 1) (by simpa using hj)
      simpa using this

set_option maxHeartbeats 2000000 in
theorem rise_any (w : World) (v : Value) (l : List Str) (h : Rds w v (sv l)) :
    Calls Try.prog 57 #[v] w fun e w' => e = .returned (.bool (riseL l)) ∧ Grows w w' := by
  obtain ⟨ao, n, cap, rfl⟩ := h.sl
  obtain ⟨hn, c1, c2, c3⟩ := h.cells
  rw [sv_length] at hn c1 c3
  rw [← hn] at c1 c3
  unfold maxLen at c2
  have HN : Hid (n = l.length) := hn
  have HH : Hid (Rds w (.slice ao n cap) (sv l)) := h
  obtain ⟨Z, hZ⟩ : ∃ Z, riseL l = Z := ⟨_, rfl⟩
  have HZ : Hid _ := hZ
  rw [hZ]
  have HC : Hid _ := c3
  clear h hn hZ c3
  go_enter Try.func57, Try.ntmps57
  go_wp2_with fail
  go_loopg [6] n (fun kx vi wr => ∃ i : Nat, vi = .int .i64 i ∧ i ≤ n ∧ n - i ≤ kx ∧ Hid (∀ j, j + 1 < i → Op.bytesLess (l.getD j []) (l.getD (j + 1) []) = true) ∧ Hid (Grows w wr))
  case atStart => exact ⟨0, rfl, by omega, Nat.le_refl _, fun j hj => by omega, Grows.refl _⟩
  case round =>
    obtain ⟨i, rfl, hin, hkx, HJ, HG⟩ := hrel
    by_cases hlt : i < n
    · have hltz : (i : Int) < (n : Int) := by omega
      obtain ⟨b, off, rfl, hcl⟩ := HC.out (by omega)
      rcases Nat.eq_zero_or_pos i with hz | hp
      · subst hz
        have HJ2 : Hid (∀ j, j + 1 < 0 + 1 → Op.bytesLess (l.getD j []) (l.getD (j + 1) []) = true) := fun j hj => by omega
        clear hcl
        go_wp2_with fail
        go_quiet (fail)
        go_wp2_with fail
        go_roundg (n - (0 + 1))
        case measure => omega
        case rel => exact ⟨0 + 1, by go_num, by omega, Nat.le_refl _, HJ2.out, HG.out.trans (Grows.drewN _ _)⟩
      · obtain ⟨k, rfl⟩ : ∃ k, i = k + 1 := ⟨i - 1, by omega⟩
        have q0 := cell_up HG.out.below (hcl k _ (sv_get l k (by have := HN.out; omega)))
        have q1 := cell_up HG.out.below (hcl (k + 1) _ (sv_get l (k + 1) (by have := HN.out; omega)))
        have hkd : decide (0 < k + 1) = true := by simp
        have hkl : (k : Int) < (n : Int) := by omega
        have HL : Hid (Op.bytesLess (l.getD k []) (l.getD (k + 1) []) = true → ∀ j, j + 1 < k + 1 + 1 → Op.bytesLess (l.getD j []) (l.getD (j + 1) []) = true) := fun hh j hj => by
          by_cases e : j = k
          · subst e; exact hh
          · exact HJ.out j (by omega)
        have HF : Hid (Op.bytesLess (l.getD k []) (l.getD (k + 1) []) = false → riseL l = false) := fun hh => by
          rw [Bool.eq_false_iff]
          intro ht
          have := (riseL_iff l).1 ht k (by have := HN.out; omega)
          rw [hh] at this; cases this
        generalize l.getD k [] = x at *
        generalize l.getD (k + 1) [] = y at *
        have hx := str_toList x
        have hy := str_toList y
        clear hcl
        cases hb : Op.bytesLess x y with
        | true =>
          have HJ2 : Hid _ := HL.out hb
          go_wp2_with fail
          go_quiet (fail)
          go_wp2_with fail
          go_roundg (n - (k + 1 + 1))
          case measure => omega
          case rel => exact ⟨k + 1 + 1, by go_num, by omega, Nat.le_refl _, HJ2.out, HG.out.trans (Grows.drewN _ _)⟩
        | false =>
          have HF2 : Hid _ := HF.out hb
          go_wp2_with fail
          go_quiet (fail)
          go_wp2_with fail
          go_ret
          exact ⟨by rw [← HZ.out, HF2.out]; rfl, HG.out.trans (Grows.drewN _ _)⟩
    · have hltz : ¬ (i : Int) < (n : Int) := by omega
      go_wp2_with fail
      go_ret
      refine ⟨?_, HG.out⟩
      have : riseL l = true := (riseL_iff l).2 fun j hj => HJ.out j (by have := HN.out; omega)
      rw [← HZ.out, this]; rfl
theorem tooLong_any (w : World) (x : Str) : Calls Try.prog 59 #[.string ⟨x.toArray⟩] w fun e w' => e = .returned (.bool (decide (64 < x.length))) ∧ w' = w := by
  have hx := str_size x
  go_enter Try.func59, Try.ntmps59
  go_wp2_with fail
  go_ret
  exact ⟨by simp; omega, rfl⟩
end Go.Proofs.Ytkoihniggoelnaa
