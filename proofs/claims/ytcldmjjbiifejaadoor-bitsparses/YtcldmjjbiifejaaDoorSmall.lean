/- Contracts of the small functions of bits: isWidth, allFit, bytesFor; of the reference's long. -/
import Derived.Test.YtcldmjjbiifejaaDoorCells
namespace Go.Proofs.YtcldmjjbiifejaaDoor
open Go.RowKit

/-- Whole numbers as cells. -/
def iv (l : List Int) : List Value := l.map (Value.int .i64)
theorem iv_length (l : List Int) : (iv l).length = l.length := by simp [iv]
theorem iv_get (l : List Int) (i : Nat) (h : i < l.length) : (iv l)[i]? = some (.int .i64 (l.getD i 0)) := by simp [iv, h]
theorem iv_one (l : List Int) : ∀ u ∈ iv l, u.oneCell' = true := by
  intro u hu; simp [iv] at hu; obtain ⟨c, _, rfl⟩ := hu; rfl
theorem iv_nat (l : List Nat) : iv (l.map fun n : Nat => (n : Int)) = nv .i64 l := by simp [iv, nv]

/-- The numbers of this row fit into so many bits. -/
def fits (l : List Int) (wd : Nat) : Bool := l.all fun x => decide (0 ≤ x) && decide (x < 2 ^ wd)
/-- Each is an int. -/
def Ints (l : List Int) : Prop := ∀ x ∈ l, -9223372036854775808 ≤ x ∧ x ≤ 9223372036854775807
theorem Ints.at {l : List Int} (h : Ints l) (k : Nat) (hk : k < l.length) : -9223372036854775808 ≤ l.getD k 0 ∧ l.getD k 0 ≤ 9223372036854775807 := by
  have : l.getD k 0 = l[k] := by simp [hk]
  rw [this]; exact h _ (List.getElem_mem hk)
theorem fits_no {l : List Int} {wd k : Nat} (hk : k < l.length) (h : ¬ (0 ≤ l.getD k 0 ∧ l.getD k 0 < 2 ^ wd)) : fits l wd = false := by
  have e : l.getD k 0 = l[k] := by simp [hk]
  rw [e] at h
  unfold fits
  rw [Bool.eq_false_iff]
  intro ha
  have := List.all_eq_true.1 ha _ (List.getElem_mem hk)
  simp at this
  exact h this
theorem fits_yes {l : List Int} {wd : Nat} (h : ∀ i, i < l.length → 0 ≤ l.getD i 0 ∧ l.getD i 0 < 2 ^ wd) : fits l wd = true := by
  unfold fits
  rw [List.all_eq_true]
  intro x hx
  obtain ⟨i, hi, rfl⟩ := List.getElem_of_mem hx
  have := h i hi
  simp [hi] at this
  simpa using this
theorem fits_at {l : List Int} {wd k : Nat} (h : fits l wd = true) (hk : k < l.length) : 0 ≤ l.getD k 0 ∧ l.getD k 0 < 2 ^ wd := by
  have e : l.getD k 0 = l[k] := by simp [hk]
  rw [e]
  have := List.all_eq_true.1 h _ (List.getElem_mem hk)
  simpa using this

theorem isWidth_any (w : World) (z : Int) (hz : -9223372036854775808 ≤ z ∧ z ≤ 9223372036854775807) :
    Calls Tryd.prog 46 #[.int .i64 z] w fun e w' => e = .returned (.bool (decide (0 ≤ z) && decide (z ≤ 32))) ∧ w' = w := by
  by_cases h0 : 0 ≤ z
  · by_cases h1 : z ≤ 32
    · go_enter Tryd.func46, Tryd.ntmps46
      go_wp2
      go_ret
      simp [h0, h1]
    · go_enter Tryd.func46, Tryd.ntmps46
      go_wp2
      go_ret
      simp [h1]
  · go_enter Tryd.func46, Tryd.ntmps46
    go_wp2
    go_ret
    simp; omega

theorem bytesFor_any (w : World) (n : Nat) (hn : n ≤ 1099511627776) :
    Calls Tryd.prog 45 #[.int .i64 n] w fun e w' => e = .returned (.int .i64 ((n + 7) / 8 : Nat)) ∧ w' = w := by
  go_enter Tryd.func45, Tryd.ntmps45
  go_wp2
  go_ret
  refine ⟨?_, rfl⟩
  have e : ((n : Int) + 8 - 1) / 8 = (((n + 7) / 8 : Nat) : Int) := by omega
  simp [e]

theorem long_any (w : World) (n : Nat) (hn : n ≤ 1099511627776) :
    Calls Tryd.prog 39 #[.int .i64 n] w fun e w' => e = .returned (.int .i64 ((n + 7) / 8 : Nat)) ∧ w' = w := by
  have e1 : (n : Int).tdiv 8 = ((n / 8 : Nat) : Int) := by rw [Int.tdiv_eq_ediv_of_nonneg (by omega)]; omega
  have e2 : (n : Int).tmod 8 = ((n % 8 : Nat) : Int) := by rw [Int.tmod_eq_emod_of_nonneg (by omega)]; omega
  by_cases h : n % 8 = 0
  · have e3 : (n : Int).tmod 8 = 0 := by omega
    have e4 : (n + 7) / 8 = n / 8 := by omega
    go_enter Tryd.func39, Tryd.ntmps39
    go_wp2
    go_ret
    exact ⟨by rw [e4]; simp_all, rfl⟩
  · have e3 : (n + 7) / 8 = n / 8 + 1 := by omega
    go_enter Tryd.func39, Tryd.ntmps39
    go_wp2
    go_ret
    exact ⟨by rw [e3]; simp, rfl⟩

set_option maxHeartbeats 400000 in
theorem allFit_any (w : World) (v : Value) (l : List Int) (wd : Nat) (h : Rds w v (iv l)) (hw : wd ≤ 32) (hi : Ints l) (hl : l.length ≤ 5000) :
    Calls Tryd.prog 47 #[v, .int .i64 wd] w fun e w' => e = .returned (.bool (fits l wd)) ∧ w' = w := by
  obtain ⟨ao, n, cap, rfl⟩ : ∃ ao n cap, v = .slice ao n cap := by obtain ⟨ao, cap, rfl, _⟩ := h; exact ⟨_, _, _, rfl⟩
  obtain ⟨rfl, h1, h2, h3⟩ := h.cells
  simp only [iv_length] at *
  have hw' : (wd : Int) ≤ 32 := by omega
  go_enter Tryd.func47, Tryd.ntmps47
  go_wp2
  go_loop [9] (fun i => ∃ k : Nat, k ≤ l.length ∧ i = .int .i64 k ∧ ∀ i, i < k → 0 ≤ l.getD i 0 ∧ l.getD i 0 < 2 ^ wd) (fun i => l.length - (intOf i).toNat)
  case atStart => exact ⟨0, by omega, rfl, fun i hi => by omega⟩
  case round =>
    obtain ⟨k, hk, rfl, hall⟩ := hrel
    have HA := hide hall
    clear hall
    by_cases hlt : k < l.length
    · have hlt' : (k : Int) < (l.length : Int) := by omega
      obtain ⟨b, off, rfl, hc⟩ := h3 (by omega)
      have hck := hc k _ (iv_get l k hlt)
      obtain ⟨z, hz⟩ : ∃ z, z = l.getD k 0 := ⟨_, rfl⟩
      have hzb := hi.at k hlt
      rw [← hz] at hck hzb
      have HZ := hide hz
      clear hz hc
      by_cases hneg : z < 0
      · go_wp2
        go_ret
        exact ⟨by rw [fits_no hlt (by rw [← unhide HZ]; omega)]; rfl, rfl⟩
      · obtain ⟨m, rfl⟩ : ∃ m : Nat, z = m := ⟨z.toNat, by omega⟩
        by_cases hm : m < 2 ^ wd
        · have e : (m : Int) / 2 ^ wd = 0 := Int.ediv_eq_zero_of_lt (by omega) (by exact_mod_cast hm)
          go_wp2
          go_round
          case rel => 
            refine ⟨k + 1, by omega, by go_num, fun i hi => ?_⟩
            by_cases hik : i = k
            · subst hik; rw [← unhide HZ]; exact ⟨by omega, by exact_mod_cast hm⟩
            · exact unhide HA i (by omega)
          case measure => simp [intOf]; omega
        · have e : ¬ (m : Int) / 2 ^ wd = 0 := by
            intro h0
            have h0' : m / 2 ^ wd = 0 := by exact_mod_cast h0
            have := Nat.div_eq_zero_iff.1 h0'
            have := Nat.two_pow_pos wd
            omega
          go_wp2
          go_ret
          refine ⟨?_, rfl⟩
          rw [fits_no hlt (by rw [← unhide HZ]; exact fun hh => hm (by exact_mod_cast hh.2))]
          rfl
    · have e : k = l.length := by omega
      subst e
      go_wp2
      go_ret
      exact ⟨by rw [fits_yes (unhide HA)]; rfl, rfl⟩
end Go.Proofs.YtcldmjjbiifejaaDoor
