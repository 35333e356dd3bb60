/- Contracts of the reference's Kids and part. -/
import Derived.Test.YtlfkhinmncbkcaaChk
namespace Go.Proofs.Ytlfkhinmncbkcaa
open Go.RowKit Go.Sort

def Tr.rkidv (t : Tr) : Value := if t.k = 3 ∨ t.k = 4 then t.kv else if t.k = 2 ∧ 0 < t.ks.length then cut1 t.kv else .slice none 0 0
theorem Tr.Ok.rkids {w : World} {t : Tr} (h : t.Ok w) : RdsT w t.rkidv t.kids := by
  have hk := h.kids
  unfold Tr.kidv Tr.kids at hk
  unfold Tr.rkidv Tr.kids
  by_cases h3 : t.k = 3 ∨ t.k = 4
  · rw [if_pos h3, if_neg (by omega), if_pos h3]
    rw [if_neg (by omega), if_pos h3, if_neg (by omega), if_pos h3] at hk
    exact hk
  · rw [if_neg h3, if_neg h3]
    by_cases h2 : t.k = 2
    · rw [if_pos h2, if_pos h2] at hk
      rw [if_pos h2]
      by_cases hl : 0 < t.ks.length
      · rw [if_pos ⟨h2, hl⟩]; exact hk
      · rw [if_neg fun h => hl h.2]
        have : t.ks = [] := List.eq_nil_of_length_eq_zero (by omega)
        rw [this]
        exact RdsT.nil w
    · rw [if_neg h2, if_neg fun h => h2 h.1]
      exact RdsT.nil w

set_option maxHeartbeats 4000000 in
theorem refkids_any (w : World) (t : Tr) (h : t.Ok w) :
    Calls Try.prog 30 #[.agg #[.int .i64 t.k, .int .i64 t.d, t.tv, .int .i64 t.lo, .int .i64 t.hi, t.kv]] w fun e w' => e = .returned t.rkidv ∧ Grows w w' := by
  obtain ⟨at', nt, ct, ak, nk, ck, e1, e2, h1, h2, h3, h4⟩ := h.lens
  have hv : t.rkidv = if t.k = 3 ∨ t.k = 4 then .slice ak nk ck else if t.k = 2 ∧ 0 < nk then cut1 (.slice ak nk ck) else .slice none 0 0 := by unfold Tr.rkidv; rw [e2, h1]
  rw [hv, e1, e2]
  unfold maxLen at h3
  have H4 : Hid (ak = none → nk = 0 ∧ ck = 0) := h4
  clear hv e1 e2 h h1 h4
  generalize t.k = k
  generalize t.d = d
  generalize t.lo = lo
  generalize t.hi = hi
  by_cases hk3 : k = 3
  · subst hk3
    rw [if_pos (.inl rfl)]
    go_enter Try.func30, Try.ntmps30
    go_wp2_with fail
    go_ret
    exact ⟨rfl, Grows.alloc _ _⟩
  · have hb3 : (k == 3) = false := by simp [hk3]
    by_cases hk4 : k = 4
    · subst hk4
      rw [if_pos (.inr rfl)]
      clear hk3 hb3
      go_enter Try.func30, Try.ntmps30
      go_wp2_with fail
      go_ret
      exact ⟨rfl, Grows.alloc _ _⟩
    · have hb4 : (k == 4) = false := by simp [hk4]
      rw [if_neg fun h => h.elim hk3 hk4]
      by_cases hk2 : k = 2
      · subst hk2
        clear hk3 hk4 hb3 hb4
        by_cases hn : 0 < nk
        · have hnz : decide ((0 : Int) < (nk : Int)) = true := decide_eq_true (by omega)
          have hmn : min 1 nk = 1 := by omega
          have hv2 : cut1 (.slice ak nk ck) = .slice ak 1 ck := by show Value.slice ak (min 1 nk) ck = _; rw [hmn]
          rw [if_pos ⟨rfl, hn⟩, hv2]
          have hcz : (1 : Int) ≤ (ck : Int) := by omega
          cases ak with
          | none => exact absurd (H4.out rfl).1 (by omega)
          | some ad =>
            clear hmn hv2
            go_enter Try.func30, Try.ntmps30
            go_wp2_with fail
            go_ret
            exact ⟨rfl, Grows.alloc _ _⟩
        · have hnz : decide ((0 : Int) < (nk : Int)) = false := decide_eq_false (by omega)
          rw [if_neg fun h => hn h.2]
          go_enter Try.func30, Try.ntmps30
          go_wp2_with fail
          go_ret
          exact ⟨rfl, Grows.alloc _ _⟩
      · have hb2 : (k == 2) = false := by simp [hk2]
        rw [if_neg fun h => hk2 h.1]
        clear hk2 hk3 hk4
        go_enter Try.func30, Try.ntmps30
        go_wp2_with fail
        go_ret
        exact ⟨rfl, Grows.alloc _ _⟩
end Go.Proofs.Ytlfkhinmncbkcaa
