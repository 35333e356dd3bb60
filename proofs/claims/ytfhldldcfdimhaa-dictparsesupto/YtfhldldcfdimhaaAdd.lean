/- The contract of dict.add, where the text may not stand there. -/
import Derived.Test.YtfhldldcfdimhaaPMath2
import Derived.Test.YtfhldldcfdimhaaRefB
namespace Go.Proofs.Ytfhldldcfdimhaa
open Go.RowKit Go.Shelf Go.Sort

/-- The dictionary that Parse makes: its struct in block B, its texts owned. -/
structure DD (w : World) (base B : Nat) (v : Value) (ts : List Str) : Prop where
  cell : w.heap[B]? = some (.cells #[v] 57 (0, 0))
  ge : base ≤ B
  own : Own w base 9 v (sv ts)
  ne : v.ownBlock ≠ some B
  few : ∀ t ∈ ts, t.length ≤ 64
theorem prv_few {ts : List Str} (h : ∀ t ∈ ts, t.length ≤ 64) (k : Nat) : (prv ts k).length ≤ 64 := by
  cases k with
  | zero => simp [prv]
  | succ j =>
    by_cases hj : j < ts.length
    · simp only [prv]; rw [getD_at hj]; exact h _ (List.getElem_mem hj)
    · simp [prv, hj]

set_option maxHeartbeats 800000 in
/-- More bytes of the text ahead than it has. -/
theorem add_more (w : World) (base B : Nat) (v : Value) (ts : List Str) (same : Nat) (rest : Str) (h : DD w base B v ts) (hl : ts.length ≤ 8796093022207) (hs : (prv ts ts.length).length < same) (hs2 : same < 18446744073709551616) :
    Calls Try.prog 35 #[.pointer (some ⟨B, 0, none⟩), .int .u64 same, .string ⟨rest.toArray⟩] w fun e w' => e = .returned (.bool false) ∧ w' = w := by
  have hf := prv_few h.few ts.length
  have hcB : w.cell? ⟨B, 0, none⟩ = some v := by rw [cell_of_row w B 0 _ 57 (0, 0) h.cell]; rfl
  obtain ⟨ao, n, cap, rfl⟩ : ∃ ao n cap, v = .slice ao n cap := by obtain ⟨ao, cap, hv, _⟩ := h.own.rds; exact ⟨_, _, _, hv⟩
  obtain ⟨hn, _, _, h3⟩ := h.own.rds.cells
  rw [sv_length] at hn h3
  subst hn
  by_cases h0 : 0 < ts.length
  · obtain ⟨b, off, rfl, hc⟩ := h3 h0
    have hck := hc (ts.length - 1) _ (sv_get ts (ts.length - 1) (by omega))
    have e : ts.getD (ts.length - 1) [] = prv ts ts.length := by
      obtain ⟨j, hj⟩ : ∃ j, ts.length = j + 1 := ⟨ts.length - 1, by omega⟩
      rw [hj]; rfl
    rw [e] at hck
    generalize prv ts ts.length = a at *
    have hsa := str_size a
    obtain ⟨m, hm⟩ : ∃ m, ts.length - 1 = m := ⟨_, rfl⟩
    have hm1 : ((ts.length : Nat) : Int) - 1 = (m : Int) := by omega
    have hm2 : (m : Int) < (ts.length : Int) := by omega
    have hm3 : (0 : Int) ≤ (m : Int) := by omega
    have hsi : (a.length : Int) < (same : Int) := by omega
    rw [hm] at hck
    clear hm h h3 hc e
    generalize ts.length = n at *
    go_enter Try.func35, Try.ntmps35
    go_wp2_with fail
    go_ret
    exact ⟨rfl, rfl⟩
  · have hz : ts.length = 0 := by omega
    have ha : prv ts ts.length = [] := by rw [hz]; rfl
    rw [ha] at hs
    have hsi : (0 : Int) < (same : Int) := by simp at hs; omega
    have hz' : ((ts.length : Nat) : Int) = 0 := by omega
    rw [hz] at hcB
    clear h h3 ha hs hf hz hz' hl h0
    go_enter Try.func35, Try.ntmps35
    go_wp2_with fail
    go_ret
    exact ⟨rfl, rfl⟩
end Go.Proofs.Ytfhldldcfdimhaa
