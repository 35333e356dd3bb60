/- Contracts of kids and count. -/
import Derived.Test.YtlfkhinmncbkcaaTree
import Derived.Deep.LoopGhost
namespace Go.Proofs.Ytlfkhinmncbkcaa
open Go.RowKit Go.Sort

def Tr.val (t : Tr) : Value := .agg #[.int .i64 t.k, .int .i64 t.d, t.tv, .int .i64 t.lo, .int .i64 t.hi, t.kv]
/-- The numbers fit, all the way down, and the slices are short enough to be walked. -/
theorem Tr.Ok.lens {w : World} {t : Tr} (h : t.Ok w) : ∃ at' nt ct ak nk ck, t.tv = .slice at' nt ct ∧ t.kv = .slice ak nk ck ∧ nk = t.ks.length ∧ nk ≤ ck ∧ ck ≤ maxLen ∧ (ak = none → nk = 0 ∧ ck = 0) := by
  obtain ⟨at', nt, ct, e1⟩ := h.rt.sl
  have hk := h.kids'
  obtain ⟨ak, nk, ck, e2⟩ := hk.sl
  rw [e2] at hk
  obtain ⟨h1, h2, h3⟩ := hk.len
  obtain ⟨-, -, -, -, -, k4⟩ := hk.r.cells (by decide)
  exact ⟨at', nt, ct, ak, nk, ck, e1, e2, h1, h2, h3, fun e => ⟨by rw [h1]; exact (k4 e).1, (k4 e).2⟩⟩

set_option maxHeartbeats 4000000 in
theorem kids_any (w : World) (t : Tr) (h : t.Ok w) :
    Calls Try.prog 33 #[.agg #[.int .i64 t.k, .int .i64 t.d, t.tv, .int .i64 t.lo, .int .i64 t.hi, t.kv]] w fun e w' => e = .returned t.kidv ∧ Grows w w' := by
  obtain ⟨at', nt, ct, ak, nk, ck, e1, e2, h1, h2, h3, h4⟩ := h.lens
  have hv : t.kidv = if t.k = 2 then cut1 (.slice ak nk ck) else if t.k = 3 ∨ t.k = 4 then .slice ak nk ck else .slice none 0 0 := by unfold Tr.kidv; rw [e2]
  rw [hv, e1, e2]
  unfold maxLen at h3
  have H4 : Hid (ak = none → nk = 0 ∧ ck = 0) := h4
  clear hv e1 e2 h h1 h4
  generalize t.k = k
  generalize t.d = d
  generalize t.lo = lo
  generalize t.hi = hi
  by_cases hk2 : k = 2
  · have hb2 : (k == 2) = true := by simp [hk2]
    subst hk2
    by_cases hn : nk = 0
    · subst hn
      have hcz : (0 : Int) ≤ (ck : Int) := by omega
      go_enter Try.func33, Try.ntmps33
      cases ak with
      | none =>
        obtain ⟨-, rfl⟩ := H4.out rfl
        go_wp2_with fail
        go_ret
        exact ⟨rfl, Grows.alloc _ _⟩
      | some ad =>
        go_wp2_with fail
        go_ret
        exact ⟨rfl, Grows.alloc _ _⟩
    · have hmin : min (1 : Int) (nk : Int) = 1 := by omega
      have hmn : min 1 nk = 1 := by omega
      have hcz : (1 : Int) ≤ (ck : Int) := by omega
      have hv2 : cut1 (.slice ak nk ck) = .slice ak 1 ck := by show Value.slice ak (min 1 nk) ck = _; rw [hmn]
      rw [if_pos rfl, hv2]
      have HM : Hid (min 1 nk = 1) := hmn
      have hn1 : (1 : Int) ≤ (nk : Int) := by omega
      have hn2 : ¬ (nk : Int) < 1 := by omega
      cases ak with
      | none => exact absurd (H4.out rfl).1 hn
      | some ad =>
        clear hmn hv2
        go_enter Try.func33, Try.ntmps33
        go_wp2_with fail
        go_ret
        exact ⟨rfl, Grows.alloc _ _⟩
  · have hb2 : (k == 2) = false := by simp [hk2]
    rw [if_neg hk2]
    by_cases hk3 : k = 3
    · have hb3 : (k == 3) = true := by simp [hk3]
      rw [if_pos (.inl hk3)]
      clear hk2 hk3
      go_enter Try.func33, Try.ntmps33
      go_wp2_with fail
      go_ret
      exact ⟨rfl, Grows.alloc _ _⟩
    · have hb3 : (k == 3) = false := by simp [hk3]
      by_cases hk4 : k = 4
      · have hb4 : (k == 4) = true := by simp [hk4]
        rw [if_pos (.inr hk4)]
        clear hk2 hk3 hk4
        go_enter Try.func33, Try.ntmps33
        go_wp2_with fail
        go_ret
        exact ⟨rfl, Grows.alloc _ _⟩
      · have hb4 : (k == 4) = false := by simp [hk4]
        rw [if_neg (fun h => h.elim hk3 hk4)]
        clear hk2 hk3 hk4
        go_enter Try.func33, Try.ntmps33
        go_wp2_with fail
        go_ret
        exact ⟨rfl, Grows.alloc _ _⟩
end Go.Proofs.Ytlfkhinmncbkcaa
