/- Contracts of holdsJust and of the reference's bit. -/
import Derived.Test.YtcldmjjbiifejaaDoorSmall
import Derived.Test.YtcldmjjbiifejaaDoorUnMath
namespace Go.Proofs.YtcldmjjbiifejaaDoor
open Go.RowKit

def Bytes (bs : List Nat) : Prop := ∀ x ∈ bs, x < 2 ^ 8
theorem Bytes.at {bs : List Nat} (h : Bytes bs) (i : Nat) : bs.getD i 0 < 256 := by
  by_cases hi : i < bs.length
  · have e : bs.getD i 0 = bs[i] := by simp [hi]
    rw [e]; exact h _ (List.getElem_mem hi)
  · simp [hi]

theorem bit_any (w : World) (v : Value) (bs : List Nat) (i : Nat) (h : Rds w v (nv .u8 bs)) (hb : Bytes bs) (hi : i < 8 * bs.length) (hl : bs.length ≤ 1099511627776) :
    Calls Tryd.prog 40 #[v, .int .i64 i] w fun e w' => e = .returned (.int .i64 ((ofd 8 bs / 2 ^ i % 2 : Nat) : Int)) ∧ w' = w := by
  obtain ⟨ao, n, cap, rfl⟩ : ∃ ao n cap, v = .slice ao n cap := by obtain ⟨ao, cap, rfl, _⟩ := h; exact ⟨_, _, _, rfl⟩
  obtain ⟨rfl, h1, h2, h3⟩ := h.cells
  simp only [nv_length] at *
  obtain ⟨b, off, rfl, hc⟩ := h3 (by omega)
  obtain ⟨q, hq⟩ : ∃ q, q = i / 8 := ⟨_, rfl⟩
  obtain ⟨r, hr⟩ : ∃ r, r = i % 8 := ⟨_, rfl⟩
  have hqi : (i : Int) / 8 = (q : Int) := by omega
  have hri : (i : Int) % 8 = (r : Int) := by omega
  have hql : q < bs.length := by omega
  have hck := hc q _ (nv_get .u8 bs q hql)
  have hbb := byte_bit bs hb i hi
  rw [← hq, ← hr] at hbb
  rw [← hbb]
  have hx := hb.at q
  obtain ⟨x, hxx⟩ : ∃ x, x = bs.getD q 0 := ⟨_, rfl⟩
  rw [← hxx] at hck hx ⊢
  obtain ⟨xj, hxj⟩ : ∃ xj, xj = x / 2 ^ r := ⟨_, rfl⟩
  have exj : (x : Int) / 2 ^ r = (xj : Int) := by rw [hxj]; norm_cast
  rw [← hxj]
  have hr7 : r ≤ 7 := by omega
  have hxjl : xj ≤ x := by rw [hxj]; exact Nat.div_le_self _ _
  clear hbb hxj hxx hr hq hc
  go_enter Tryd.func40, Tryd.ntmps40
  go_wp2
  go_ret
  simp

theorem just_any (w : World) (v : Value) (bs : List Nat) (T : Nat) (h : Rds w v (nv .u8 bs)) (hb : Bytes bs) (hT : T ≤ 1099511627776) :
    Calls Tryd.prog 36 #[v, .int .i64 T] w fun e w' => e = .returned (.bool (just bs T)) ∧ w' = w := by
  obtain ⟨ao, n, cap, rfl⟩ : ∃ ao n cap, v = .slice ao n cap := by obtain ⟨ao, cap, rfl, _⟩ := h; exact ⟨_, _, _, rfl⟩
  obtain ⟨rfl, h1, h2, h3⟩ := h.cells
  simp only [nv_length] at *
  obtain ⟨M, hM⟩ : ∃ M, M = (T + 7) / 8 := ⟨_, rfl⟩
  have hMl : M ≤ 1099511627776 := by omega
  obtain ⟨L, hL⟩ : ∃ L, L = bs.length := ⟨_, rfl⟩
  rw [← hL] at h1 h3 ⊢
  have HL := hide hL
  have HM := hide hM
  clear hM hL
  by_cases hlen : L = M
  · by_cases hr : T % 8 = 0
    · have hj : just bs T = true := by
        unfold just
        have := unhide HM; have := unhide HL
        rw [decide_eq_true (by omega), decide_eq_true (full_bytes hb (by omega) hr)]; rfl
      rw [hj]
      have hri : (T : Int) % 8 = 0 := by omega
      subst hlen
      clear hr
      go_enter Tryd.func36, Tryd.ntmps36
      go_wp2_with fail
      refine (bytesFor_any w T hT).mono ?_
      rintro e1 w1 ⟨rfl, rfl⟩
      rw [← unhide HM]
      go_wp2
      go_ret
      simp
    · have hLp : 0 < L := by have := unhide HM; omega
      obtain ⟨b, off, rfl, hc⟩ := h3 hLp
      have hck := hc (L - 1) _ (nv_get .u8 bs (L - 1) (by rw [← unhide HL]; omega))
      have hx := hb.at (L - 1)
      have hlb := last_byte hb (T := T) (by have := unhide HM; have := unhide HL; omega) hr
      rw [← unhide HL] at hlb
      obtain ⟨x, hxx⟩ : ∃ x, x = bs.getD (L - 1) 0 := ⟨_, rfl⟩
      rw [← hxx] at hck hx hlb
      obtain ⟨r, hr'⟩ : ∃ r, r = T % 8 := ⟨_, rfl⟩
      have hri : (T : Int) % 8 = (r : Int) := by omega
      rw [← hr'] at hlb hr
      obtain ⟨xj, hxj⟩ : ∃ xj, xj = x / 2 ^ r := ⟨_, rfl⟩
      have exj : (x : Int) / 2 ^ r = (xj : Int) := by rw [hxj]; norm_cast
      have hr7 : r ≤ 7 := by omega
      have hxjl : xj ≤ x := by rw [hxj]; exact Nat.div_le_self _ _
      have eL : ((L : Int) - 1) = ((L - 1 : Nat) : Int) := by omega
      have hj : just bs T = decide (xj = 0) := by
        unfold just
        have := unhide HM; have := unhide HL
        rw [decide_eq_true (by omega), Bool.true_and, hxj]
        exact decide_eq_decide.2 hlb.symm
      rw [hj]
      have hr0 : ¬ (r : Int) = 0 := by omega
      have hlenb : L ≤ 1099511627776 := by omega
      obtain ⟨L1, hL1⟩ : ∃ L1, L1 = L - 1 := ⟨_, rfl⟩
      rw [← hL1] at hck eL
      have hL1' : L1 < L := by omega
      have hL1i : (L1 : Int) < (L : Int) := by omega
      have HJ := hide hxj
      subst hlen
      clear hlb hxx hr' hc hj hxj hL1
      by_cases hz : xj = 0
      · have hz' : (xj : Int) = 0 := by omega
        go_enter Tryd.func36, Tryd.ntmps36
        go_wp2_with fail
        refine (bytesFor_any w T hT).mono ?_
        rintro e1 w1 ⟨rfl, rfl⟩
        rw [← unhide HM]
        go_wp2
        go_ret
        simp; omega
      · have hz' : ¬ (xj : Int) = 0 := by omega
        go_enter Tryd.func36, Tryd.ntmps36
        go_wp2_with fail
        refine (bytesFor_any w T hT).mono ?_
        rintro e1 w1 ⟨rfl, rfl⟩
        rw [← unhide HM]
        go_wp2
        go_ret
        simp [hz]; omega
  · have hj : just bs T = false := by
      unfold just
      have := unhide HM; have := unhide HL
      rw [decide_eq_false (by omega)]; rfl
    rw [hj]
    have hne : ¬ (L : Int) = (M : Int) := by omega
    go_enter Tryd.func36, Tryd.ntmps36
    go_wp2_with fail
    refine (bytesFor_any w T hT).mono ?_
    rintro e1 w1 ⟨rfl, rfl⟩
    rw [← unhide HM]
    go_wp2
    go_ret
    simp
end Go.Proofs.YtcldmjjbiifejaaDoor
