/- Contracts of fits and what it calls. -/
import Derived.Test.YtlfkhinmncbkcaaDeep
namespace Go.Proofs.Ytlfkhinmncbkcaa
open Go.RowKit Go.Sort

def longs (ts : List Str) : Bool := ts.any fun s => decide (64 < s.length)
theorem longs_true {ts : List Str} {i : Nat} (h : i < ts.length) (hl : 64 < (ts.getD i []).length) : longs ts = true := by
  unfold longs
  rw [List.any_eq_true]
  refine ⟨ts[i], List.getElem_mem h, decide_eq_true ?_⟩
  rwa [getD_at h] at hl
theorem longs_false {ts : List Str} (h : ∀ i, i < ts.length → ¬ 64 < (ts.getD i []).length) : longs ts = false := by
  unfold longs
  rw [List.any_eq_false]
  intro s hs
  obtain ⟨i, hi, rfl⟩ := List.mem_iff_getElem.1 hs
  have := h i hi
  rw [getD_at hi] at this
  simp [this]

set_option maxHeartbeats 1600000 in
theorem idxlong_any (w : World) (v : Value) (ts : List Str) (h : Rds w v (sv ts)) :
    Calls Try.prog 48 #[v, .func (.func 45) #[] #[]] w fun e w' => ∃ i : Int, e = .returned (.int .i64 i) ∧ decide (0 ≤ i) = longs ts ∧ w' = w := by
  obtain ⟨ao, n, cap, rfl⟩ := h.sl
  obtain ⟨hn, hc1, hc2, hc3⟩ := h.cells
  rw [sv_length] at hn hc1
  rw [← hn] at hc1
  unfold maxLen at hc2
  have HN : Hid (n = ts.length) := hn
  have HH : Aside (∀ i, i < ts.length → ∃ b off, ao = some ⟨b, off, none⟩ ∧ w.cell? ⟨b, off + i, none⟩ = some (.string ⟨(ts.getD i []).toArray⟩)) := fun i hi => by
    obtain ⟨b, off, e, hc⟩ := hc3 (by rw [sv_length]; omega)
    exact ⟨b, off, e, hc i _ (sv_get ts i hi)⟩
  clear h hn hc3
  go_enter Try.func48, Try.ntmps48
  go_wp2_with fail
  go_loopg [8] n (fun kx v8 wr => ∃ i : Nat, v8 = .int .i64 i ∧ i ≤ n ∧ n - i ≤ kx ∧ Hid (∀ j, j < i → ¬ 64 < (ts.getD j []).length) ∧ Hid (wr = w))
  case atStart => exact ⟨0, rfl, by omega, Nat.le_refl _, fun j hj => by omega, rfl⟩
  case round =>
    obtain ⟨i, rfl, hi, hkx, HJ, HW⟩ := hrel
    have hw := HW.out
    subst hw
    by_cases hlt : i < n
    · have hltz : (i : Int) < (n : Int) := by omega
      have hil : i < ts.length := by have := HN.out; omega
      obtain ⟨b, off, rfl, q⟩ := HH.out i hil
      have kT := long_any wr (ts.getD i [])
      generalize hs : ts.getD i [] = s at *
      have HS : Hid (ts.getD i [] = s) := hs
      clear hs
      by_cases hlg : 64 < s.length
      · rw [decide_eq_true hlg] at kT
        have HLG : Hid (64 < s.length) := hlg
        clear hlg
        go_wp2_with fail
        refine kT.mono ?_
        rintro e w5 ⟨rfl, rfl⟩
        go_wp2_with fail
        go_ret
        refine ⟨_, rfl, ?_, rfl⟩
        rw [longs_true hil (by rw [HS.out]; exact HLG.out)]
        exact decide_eq_true (by omega)
      · rw [decide_eq_false hlg] at kT
        have HLG : Hid (¬ 64 < s.length) := hlg
        clear hlg
        go_wp2_with fail
        refine kT.mono ?_
        rintro e w5 ⟨rfl, rfl⟩
        go_wp2_with fail
        go_roundg (n - (i + 1))
        case measure => omega
        case rel =>
          refine ⟨i + 1, by go_num, by omega, Nat.le_refl _, fun j hj => ?_, hide rfl⟩
          by_cases hji : j = i
          · subst hji; rw [HS.out]; exact HLG.out
          · exact HJ.out j (by omega)
    · have hltz : ¬ (i : Int) < (n : Int) := by omega
      go_wp2_with fail
      go_ret
      refine ⟨_, rfl, ?_, rfl⟩
      rw [longs_false fun j hj => HJ.out j (by have := HN.out; omega)]
      rfl
set_option maxHeartbeats 800000 in
theorem haslong_any (w : World) (v : Value) (ts : List Str) (h : Rds w v (sv ts)) :
    Calls Try.prog 44 #[v, .func (.func 45) #[] #[]] w fun e w' => e = .returned (.bool (longs ts)) ∧ w' = w := by
  have kI := idxlong_any w v ts h
  obtain ⟨ao, n, cap, rfl⟩ := h.sl
  clear h
  go_enter Try.func44, Try.ntmps44
  go_wp2_with fail
  refine kI.mono ?_
  rintro e w5 ⟨i, rfl, hi, rfl⟩
  have HI : Hid _ := hi
  clear hi kI
  go_wp2_with fail
  go_ret
  refine ⟨?_, rfl⟩
  have h1 : longs ts = decide (0 ≤ i) := HI.out.symm
  rw [h1]
  rfl
/-- May a part by itself be? D, M: the schema's. -/
def Tr.fit (D M : Int) (t : Tr) : Bool :=
  if t.k = 1 ∨ t.k = 3 ∨ t.k = 4 then true
  else if t.k = 2 then decide (t.ks.length = 1)
  else if t.k = 8 then decide (0 ≤ t.d ∧ t.d < M)
  else if t.k = 6 then decide (t.ts.length = 2) && (decide (0 ≤ t.d ∧ t.d < D) && !longs t.ts)
  else if t.k = 7 then decide (t.ts.length = 1) && (decide (0 ≤ t.d ∧ t.d < D) && !longs t.ts)
  else if t.k = 5 then decide (0 ≤ t.d ∧ t.d < D) && !longs t.ts
  else false
end Go.Proofs.Ytlfkhinmncbkcaa
