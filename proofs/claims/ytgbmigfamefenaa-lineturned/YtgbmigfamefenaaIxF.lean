/- Contracts: stretches' closure, the library's IndexFunc at it. -/
import Derived.Test.YtgbmigfamefenaaPtI
namespace Go.Proofs.Ytgbmigfamefenaa
open Go.Shelf Go.RowKit Go.Maps Go.Sort
set_option linter.unusedVariables false

set_option maxHeartbeats 1600000 in
theorem stc_any (w : World) (B : Nat) (e : Int) (k : K3) (hB : w.cell? ⟨B, 0, none⟩ = some (.int .i64 e)) :
    Calls Try.prog 44 (#[.agg #[.int .i64 k.1, .int .i64 k.2.1, .int .i64 k.2.2]] ++ #[.pointer (some ⟨B, 0, none⟩)]) w fun ev w' => ev = .returned (.bool (decide (e < k.2.1))) ∧ Grows w w' := by
  have hlb : B < w.heap.size := World.block_lt_of_cell? _ _ hB
  have hB' : (w.alloc (.cells #[.int .i64 k.1, .int .i64 k.2.1, .int .i64 k.2.2] 55)).cell? ⟨B, 0, none⟩ = some (.int .i64 e) := by rw [(Grows.below (Grows.alloc w _)).cell (by exact hlb)]; exact hB
  obtain ⟨k1, k2, k3⟩ := k
  simp only at hB' ⊢
  go_enter Try.func44, Try.ntmps44
  go_wp2_with fail
  go_ret
  exact ⟨rfl, Grows.alloc _ _⟩
/-- The first that goes on behind e. -/
def Fst (e : Int) (l : List K3) (r : Int) : Prop := (∃ (i : Nat) (hi : i < l.length), r = (i : Int) ∧ e < l[i].2.1 ∧ ∀ j (hj : j < l.length), j < i → ¬ e < l[j].2.1) ∨ (r = -1 ∧ ∀ j (hj : j < l.length), ¬ e < l[j].2.1)
set_option maxRecDepth 100000 in
set_option maxHeartbeats 3200000 in
theorem idx_any (w : World) (B : Nat) (e : Int) (v : Value) (l : List K3) (h : RdsK 3 w v l.length (kcs l)) (hB : w.cell? ⟨B, 0, none⟩ = some (.int .i64 e)) :
    Calls Try.prog 43 #[v, .func (.func 44) #[] #[.pointer (some ⟨B, 0, none⟩)]] w fun ev w' => ∃ r, ev = .returned (.int .i64 r) ∧ Fst e l r ∧ Grows w w' := by
  obtain ⟨va, vc, rfl, hvc1, hvc2, hvc⟩ := h.at3
  have HV : Hid (0 < l.length → ∃ b o, va = some ⟨b, o, none⟩ ∧ ∀ i (hi : i < l.length), w.cell? ⟨b, o + i * 3, none⟩ = some (.int .i64 l[i].1) ∧ w.cell? ⟨b, o + i * 3 + 1, none⟩ = some (.int .i64 l[i].2.1) ∧ w.cell? ⟨b, o + i * 3 + 2, none⟩ = some (.int .i64 l[i].2.2)) := hvc
  obtain ⟨n, hn⟩ : ∃ n, n = l.length := ⟨_, rfl⟩
  have HN : Hid (n = l.length) := hn
  rw [← hn] at hvc1 ⊢
  unfold maxLen at hvc2
  have HB : Hid _ := hB
  have hlb : B < w.heap.size := World.block_lt_of_cell? _ _ hB
  clear h hvc hn hB
  go_enter Try.func43, Try.ntmps43
  go_wp2_with fail
  go_loopg [8] n (fun kx v8 wr => ∃ (i : Nat), v8 = .int .i64 i ∧ i ≤ n ∧ n - i ≤ kx ∧ Hid (∀ j (hj : j < l.length), j < i → ¬ e < l[j].2.1) ∧ Hid (Grows w wr))
  case atStart => exact ⟨0, rfl, by omega, Nat.le_refl _, (fun _ _ h => by omega), Grows.refl _⟩
  case round =>
    obtain ⟨i, rfl, hi, hkx, HR, HW⟩ := hrel
    by_cases hlt : i < n
    · have hltz : (i : Int) < (n : Int) := by omega
      have hil : i < l.length := by have := HN.out; omega
      obtain ⟨vb, vo, rfl, hcs⟩ := HV.out (by omega)
      obtain ⟨q0, q1, q2⟩ := hcs i hil
      obtain ⟨k, hk⟩ : ∃ k, k = l[i] := ⟨_, rfl⟩
      rw [← hk] at q0 q1 q2
      have p0 : wr.cell? ⟨vb, vo + i * 3, none⟩ = some (.int .i64 k.1) := ((Grows.below HW.out).cell (World.block_lt_of_cell? _ _ q0)).trans q0
      have p1 : wr.cell? ⟨vb, vo + i * 3 + 1, none⟩ = some (.int .i64 k.2.1) := ((Grows.below HW.out).cell (World.block_lt_of_cell? _ _ q1)).trans q1
      have p2 : wr.cell? ⟨vb, vo + i * 3 + 2, none⟩ = some (.int .i64 k.2.2) := ((Grows.below HW.out).cell (World.block_lt_of_cell? _ _ q2)).trans q2
      have hB : wr.cell? ⟨B, 0, none⟩ = some (.int .i64 e) := by rw [(Grows.below HW.out).cell (by exact hlb)]; exact HB.out
      have kC := stc_any wr B e k hB
      obtain ⟨p, hp⟩ : ∃ p, p = decide (e < k.2.1) := ⟨_, rfl⟩
      rw [← hp] at kC
      have HK := hide hk
      have HP := hide hp
      clear hcs q0 q1 q2 hB hp hk
      cases p with
      | true =>
        have HF : Hid (Fst e l (i : Int)) := by
          apply hide
          refine .inl ⟨i, hil, rfl, ?_, HR.out⟩
          rw [← HK.out]
          exact of_decide_eq_true HP.out.symm
        go_wp2_with fail
        refine kC.mono ?_
        rintro ev w1 ⟨rfl, g1⟩
        have HG1 : Hid (Grows w w1) := Grows.trans HW.out g1
        clear g1
        go_wp2_with fail
        go_ret
        exact ⟨_, rfl, HF.out, HG1.out⟩
      | false =>
        go_wp2_with fail
        refine kC.mono ?_
        rintro ev w1 ⟨rfl, g1⟩
        have HG1 : Hid (Grows w w1) := Grows.trans HW.out g1
        clear g1
        go_wp2_with fail
        go_roundg (n - (i + 1))
        case measure => omega
        case rel => exact ⟨i + 1, by go_num, by omega, Nat.le_refl _, (fun j hj h => by rcases Nat.lt_or_eq_of_le (Nat.le_of_lt_succ h) with h | rfl; exact HR.out j hj h; rw [← HK.out]; have := of_decide_eq_false HP.out.symm; omega), HG1⟩
    · have hltz : ¬ (i : Int) < (n : Int) := by omega
      have HF : Hid (Fst e l (-1)) := by
        apply hide
        exact .inr ⟨rfl, fun j hj => HR.out j hj (by have := HN.out; omega)⟩
      go_wp2_with fail
      go_ret
      exact ⟨_, rfl, HF.out, HW.out⟩
end Go.Proofs.Ytgbmigfamefenaa
