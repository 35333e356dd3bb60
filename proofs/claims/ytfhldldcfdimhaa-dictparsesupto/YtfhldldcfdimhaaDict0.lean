/- Contracts of Len, Text, tooLong, sameBeginning. -/
import Derived.Test.YtfhldldcfdimhaaCel
import Derived.Deep.RegionWith
import Derived.Deep.QuietTactic
import Derived.Deep.DeepCutAuto
import Derived.WalkSmall
import Derived.BigQuiet
namespace Go.Proofs.Ytfhldldcfdimhaa
open Go.RowKit

set_option maxHeartbeats 400000 in
theorem tooLong_any (w : World) (t : Str) :
    Calls Try.prog 23 #[.string ⟨t.toArray⟩] w fun e w' => e = .returned (.bool (decide (64 < t.length))) ∧ w' = w := by
  have hs := str_size t
  by_cases h : 64 < t.length
  · have hi : (64 : Int) < (t.length : Int) := by omega
    go_enter Try.func23, Try.ntmps23
    go_wp2
    go_ret
    simp [h]
  · have hi : ¬ (64 : Int) < (t.length : Int) := by omega
    go_enter Try.func23, Try.ntmps23
    go_wp2
    go_ret
    simp

set_option maxHeartbeats 400000 in
theorem len_any (w : World) (p : Value) (ts : List Str) (h : ND w p ts) :
    Calls Try.prog 16 #[p] w fun e w' => e = .returned (.int .i64 (ts.length : Nat)) ∧ w' = w := by
  rcases h with ⟨rfl, rfl⟩ | h
  · go_enter Try.func16, Try.ntmps16
    go_wp2
    go_ret
    exact ⟨rfl, rfl⟩
  · obtain ⟨B, v, rfl, h1, h2⟩ := h.ex
    obtain ⟨ao, n, cap, rfl⟩ : ∃ ao n cap, v = .slice ao n cap := by obtain ⟨ao, cap, rfl, _⟩ := h2; exact ⟨_, _, _, rfl⟩
    obtain ⟨rfl, h3, h4, h5⟩ := h2.cells
    simp only [sv_length] at *
    clear h5 h2 h
    go_enter Try.func16, Try.ntmps16
    go_wp2
    go_ret
    exact ⟨rfl, rfl⟩

set_option maxHeartbeats 400000 in
theorem text_in (w : World) (p : Value) (ts : List Str) (h : ND w p ts) (i : Nat) (hi : i < ts.length) :
    Calls Try.prog 17 #[p, .int .i64 i] w fun e w' => e = .returned (.tuple #[.string ⟨(ts.getD i []).toArray⟩, .bool true]) ∧ w' = w := by
  have hl := len_any w p ts h
  obtain ⟨B, b, off, cap, rfl, h1, h2, h3, h4⟩ := h.some (by omega)
  have hc := h4 i hi
  generalize ts.getD i [] = t at *
  have h5 : ¬ (i : Int) < 0 := by omega
  have h6 : ¬ ((ts.length : Nat) : Int) ≤ (i : Int) := by omega
  have h7 : (i : Int) < ((ts.length : Nat) : Int) := by omega
  generalize ts.length = n at *
  clear h4 h
  go_enter Try.func17, Try.ntmps17
  go_wp2_with fail
  refine hl.mono ?_
  rintro e w1 ⟨rfl, rfl⟩
  go_wp2
  go_ret2
  exact ⟨rfl, rfl⟩

set_option maxHeartbeats 400000 in
theorem text_out (w : World) (p : Value) (ts : List Str) (h : ND w p ts) (z : Int) (hz : z < 0 ∨ (ts.length : Int) ≤ z) :
    Calls Try.prog 17 #[p, .int .i64 z] w fun e w' => e = .returned (.tuple #[.string ⟨#[]⟩, .bool false]) ∧ w' = w := by
  have hl := len_any w p ts h
  by_cases h5 : z < 0
  · clear hz
    go_enter Try.func17, Try.ntmps17
    go_wp2
    go_ret2
    exact ⟨rfl, rfl⟩
  · have h6 : ((ts.length : Nat) : Int) ≤ z := by omega
    clear hz h
    generalize ts.length = n at *
    go_enter Try.func17, Try.ntmps17
    go_wp2_with fail
    refine hl.mono ?_
    rintro e w1 ⟨rfl, rfl⟩
    go_wp2
    go_ret2
    exact ⟨rfl, rfl⟩

theorem byte_at (a : Str) (i : Nat) (h : i < (⟨a.toArray⟩ : ByteArray).size) : (⟨a.toArray⟩ : ByteArray)[i] = a.getD i 0 := by
  have h' : i < a.length := by simpa [ByteArray.size] using h
  show a.toArray[i] = _
  simp [h']
set_option maxHeartbeats 800000 in
theorem same_any (w : World) (a b : Str) (ha : a.length ≤ 9223372036854775807) (hb : b.length ≤ 9223372036854775807) :
    Calls Try.prog 42 #[.string ⟨a.toArray⟩, .string ⟨b.toArray⟩] w fun e w' => e = .returned (.int .i64 (cpl a b : Nat)) ∧ ∃ q, w' = w.drewN q := by
  have sa := str_size a
  have sb := str_size b
  by_cases hm : b.length < a.length
  · have hm' : (b.length : Int) < (a.length : Int) := by omega
    go_enter Try.func42, Try.ntmps42
    go_wp2
    go_loopw [11] (fun vi wr => ∃ i m : Nat, vi = .int .i64 i ∧ i ≤ b.length ∧ wr = w.drewN m ∧ ∀ j, j < i → a.getD j 0 = b.getD j 0) (fun vi _ => b.length - (intOf vi).toNat)
    case atStart => exact ⟨0, 0, rfl, by omega, rfl, fun j hj => by omega⟩
    case round =>
      obtain ⟨i, m, rfl, hi, rfl, hall⟩ := hrel
      have HA := hide hall
      clear hall
      by_cases hlt : i < b.length
      · have hia : (i : Int) < (a.length : Int) := by omega
        have hib : (i : Int) < (b.length : Int) := by omega
        go_wp2
        go_quiet (fail)
        go_wp2
        · rename_i h
          rw [byte_at a i, byte_at b i] at h
          have h : ¬ a.getD i 0 = b.getD i 0 := fun e => by rw [e] at h; simp at h
          go_ret
          refine ⟨ret_int ?_, m + nq, World.drewN_drewN _ _ _⟩
          exact congrArg _ (cpl_eq a b i (by omega) (by omega) (unhide HA) (fun _ _ => h))
        · rename_i h
          rw [byte_at a i, byte_at b i] at h
          have h : a.getD i 0 = b.getD i 0 := by
            rw [bne_eq_false_iff_eq] at h
            exact UInt8.toNat_inj.1 (by omega)
          go_roundw
          case rel =>
            refine ⟨i + 1, m + nq, by go_num, by omega, rfl, fun j hj => ?_⟩
            by_cases hji : j = i
            · subst hji; exact h
            · exact unhide HA j (by omega)
          case measure => simp [intOf]; omega
      · have hiM : ¬ (i : Int) < (b.length : Int) := by omega
        go_wp2
        go_ret
        have hi' : i = b.length := by omega
        subst hi'
        exact ⟨ret_int (congrArg _ (cpl_eq a b _ (by omega) (by omega) (unhide HA) (fun h1 h2 => by omega))), m, rfl⟩
  · have hm' : ¬ (b.length : Int) < (a.length : Int) := by omega
    go_enter Try.func42, Try.ntmps42
    go_wp2
    go_loopw [11] (fun vi wr => ∃ i m : Nat, vi = .int .i64 i ∧ i ≤ a.length ∧ wr = w.drewN m ∧ ∀ j, j < i → a.getD j 0 = b.getD j 0) (fun vi _ => a.length - (intOf vi).toNat)
    case atStart => exact ⟨0, 0, rfl, by omega, rfl, fun j hj => by omega⟩
    case round =>
      obtain ⟨i, m, rfl, hi, rfl, hall⟩ := hrel
      have HA := hide hall
      clear hall
      by_cases hlt : i < a.length
      · have hia : (i : Int) < (a.length : Int) := by omega
        have hib : (i : Int) < (b.length : Int) := by omega
        go_wp2
        go_quiet (fail)
        go_wp2
        · rename_i h
          rw [byte_at a i, byte_at b i] at h
          have h : ¬ a.getD i 0 = b.getD i 0 := fun e => by rw [e] at h; simp at h
          go_ret
          refine ⟨ret_int ?_, m + nq, World.drewN_drewN _ _ _⟩
          exact congrArg _ (cpl_eq a b i (by omega) (by omega) (unhide HA) (fun _ _ => h))
        · rename_i h
          rw [byte_at a i, byte_at b i] at h
          have h : a.getD i 0 = b.getD i 0 := by
            rw [bne_eq_false_iff_eq] at h
            exact UInt8.toNat_inj.1 (by omega)
          go_roundw
          case rel =>
            refine ⟨i + 1, m + nq, by go_num, by omega, rfl, fun j hj => ?_⟩
            by_cases hji : j = i
            · subst hji; exact h
            · exact unhide HA j (by omega)
          case measure => simp [intOf]; omega
      · have hiM : ¬ (i : Int) < (a.length : Int) := by omega
        go_wp2
        go_ret
        have hi' : i = a.length := by omega
        subst hi'
        exact ⟨ret_int (congrArg _ (cpl_eq a b _ (by omega) (by omega) (unhide HA) (fun h1 h2 => by omega))), m, rfl⟩
end Go.Proofs.Ytfhldldcfdimhaa
