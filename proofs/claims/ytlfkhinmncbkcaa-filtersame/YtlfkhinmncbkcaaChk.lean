/- The contract of Check. -/
import Derived.Test.YtlfkhinmncbkcaaAll
namespace Go.Proofs.Ytlfkhinmncbkcaa
open Go.RowKit Go.Sort

/-- May a filter be? -/
def Tr.may (D M : Int) (t : Tr) : Bool := decide (t.sz ≤ 200) && (decide (t.dp ≤ 20) && t.fitA D M)
def errB (b : Bool) : Int := if b then 0 else 1
theorem fitL_one (D M : Int) (t : Tr) : fitL D M [t] = t.fitA D M := by simp [fitL]

set_option maxHeartbeats 4000000 in
theorem check_any (w : World) (D M : Int) (t : Tr) (h : t.Ok w) :
    Calls Try.prog 10 #[.agg #[.int .i64 D, .int .i64 M], .agg #[.int .i64 t.k, .int .i64 t.d, t.tv, .int .i64 t.lo, .int .i64 t.hi, t.kv]] w fun e w' => e = .returned (.int .i64 (errB (t.may D M))) ∧ Grows w w' := by
  obtain ⟨at', nt, ct, ak, nk, ck, e1, e2, -, -, -, -⟩ := h.lens
  obtain ⟨W, hW⟩ : ∃ W, W = (w.alloc (.cells #[.int .i64 D, .int .i64 M] 23)).alloc (.cells #[.int .i64 t.k, .int .i64 t.d, t.tv, .int .i64 t.lo, .int .i64 t.hi, t.kv] 27) := ⟨_, rfl⟩
  have gW : Grows w W := by rw [hW]; exact (Grows.alloc _ _).trans (Grows.alloc _ _)
  have zW : W.heap.size = w.heap.size + 2 := by rw [hW]; simp
  have hbox : ∀ w5, Below W.heap.size W w5 → (w5.cell? ⟨w.heap.size, 0, none⟩ = some (.int .i64 D) ∧ w5.cell? ⟨w.heap.size, 1, none⟩ = some (.int .i64 M)) ∧ ∀ c u, (#[Value.int .i64 t.k, .int .i64 t.d, t.tv, .int .i64 t.lo, .int .i64 t.hi, t.kv])[c]? = some u → w5.cell? ⟨w.heap.size + 1, c, none⟩ = some u := fun w5 h5 => by
    refine ⟨⟨?_, ?_⟩, fun c u hc => ?_⟩
    · rw [h5.cell (by rw [zW]; show w.heap.size < _; omega), hW]; simp
    · rw [h5.cell (by rw [zW]; show w.heap.size < _; omega), hW]; simp
    · rw [h5.cell (by rw [zW]; show w.heap.size + 1 < _; omega), hW]
      have hs : w.heap.size + 1 = (w.alloc (.cells #[.int .i64 D, .int .i64 M] 23)).heap.size := by simp
      rw [hs]
      simpa using hc
  have kS := size_any W t (h.up gW.below)
  have HBX : Aside _ := hbox
  have HG : Hid (Grows w W) := gW
  have HW : Hid _ := hW
  have HO : Hid (t.Ok W) := h.up gW.below
  have HE : Hid (t.tv = .slice at' nt ct ∧ t.kv = .slice ak nk ck) := ⟨e1, e2⟩
  obtain ⟨S, hS⟩ : ∃ S, S = min 201 t.sz := ⟨_, rfl⟩
  rw [← hS] at kS
  have HS : Hid (S = min 201 t.sz) := hS
  have hS1 : S ≤ 201 := by omega
  rw [hW, e1, e2] at kS
  rw [e1, e2] at HW ⊢
  clear h gW hW hbox zW e1 e2 hS
  go_enter Try.func10, Try.ntmps10
  go_wp2_with fail
  refine kS.mono ?_
  rintro e w5 ⟨rfl, g5⟩
  rw [← HW.out] at g5
  by_cases h2 : (200 : Int) < (S : Int)
  · have h2d : decide ((200 : Int) < (S : Int)) = true := decide_eq_true h2
    have HM : Hid (t.may D M = false) := by show _ = _; unfold Tr.may; rw [decide_eq_false (by have := HS.out; omega)]; rfl
    clear kS
    go_wp2_with fail
    go_ret
    exact ⟨by rw [HM.out]; rfl, HG.out.trans g5⟩
  · have h2d : decide ((200 : Int) < (S : Int)) = false := decide_eq_false h2
    have hsz : t.sz ≤ 200 := by have := HS.out; omega
    have HZ : Hid (t.sz ≤ 200) := hsz
    obtain ⟨⟨x0, x1⟩, y⟩ := HBX.out w5 g5.below
    have y0 := y 0 _ rfl
    have y1 := y 1 _ rfl
    have y2 := y 2 _ rfl
    have y3 := y 3 _ rfl
    have y4 := y 4 _ rfl
    have y5 := y 5 _ rfl
    rw [HE.out.1] at y2
    rw [HE.out.2] at y5
    have ok5 := HO.out.up g5.below
    have kD := deepest_any _ [t] (fun c hc => by simp only [List.mem_singleton] at hc; subst hc; exact Nat.lt_succ_self _) _ _ (one_tr w5 t ok5 w5.heap.size rfl) (by rw [szL_one]; omega)
    rw [dpL_one, HE.out.1, HE.out.2] at kD
    have hdz := dp_le_sz t
    obtain ⟨P, hP⟩ : ∃ P, P = t.dp := ⟨_, rfl⟩
    rw [← hP] at kD
    have HP : Hid (P = t.dp) := hP
    have hP1 : P ≤ 200 := by omega
    have HG5 : Hid (Grows W (w5.alloc (.cells #[.int .i64 t.k, .int .i64 t.d, .slice at' nt ct, .int .i64 t.lo, .int .i64 t.hi, .slice ak nk ck] 27))) := g5.trans (Grows.alloc _ _)
    clear y ok5 hdz hP hsz kS g5
    go_wp2_with fail
    refine kD.mono ?_
    rintro e w6 ⟨rfl, g6⟩
    have g6' := HG5.out.trans g6
    clear kD x0 x1 y0 y1 y2 y3 y4 y5
    by_cases h3 : (20 : Int) < (P : Int)
    · have h3d : decide ((20 : Int) < (P : Int)) = true := decide_eq_true h3
      have HM : Hid (t.may D M = false) := by show _ = _; unfold Tr.may; rw [decide_eq_false (p := t.dp ≤ 20) (by have := HP.out; omega)]; simp
      go_wp2_with fail
      go_ret
      exact ⟨by rw [HM.out]; rfl, HG.out.trans g6'⟩
    · have h3d : decide ((20 : Int) < (P : Int)) = false := decide_eq_false h3
      obtain ⟨⟨x0, x1⟩, y⟩ := HBX.out w6 g6'.below
      have y0 := y 0 _ rfl
      have y1 := y 1 _ rfl
      have y2 := y 2 _ rfl
      have y3 := y 3 _ rfl
      have y4 := y 4 _ rfl
      have y5 := y 5 _ rfl
      rw [HE.out.1] at y2
      rw [HE.out.2] at y5
      have ok6 := HO.out.up g6'.below
      have kA := allfit_any D M _ [t] (fun c hc => by simp only [List.mem_singleton] at hc; subst hc; exact Nat.lt_succ_self _) _ _ (one_tr w6 t ok6 w6.heap.size rfl)
      rw [fitL_one, HE.out.1, HE.out.2] at kA
      have HM : Hid (t.may D M = t.fitA D M) := by
        show _ = _
        unfold Tr.may
        rw [decide_eq_true HZ.out, decide_eq_true (p := t.dp ≤ 20) (by have := HP.out; omega)]; simp
      have HG6 : Hid (Grows W (w6.alloc (.cells #[.int .i64 t.k, .int .i64 t.d, .slice at' nt ct, .int .i64 t.lo, .int .i64 t.hi, .slice ak nk ck] 27))) := g6'.trans (Grows.alloc _ _)
      generalize t.fitA D M = F at *
      clear y ok6 g6 g6' HG5
      cases F with
      | true =>
        go_wp2_with fail
        refine kA.mono ?_
        rintro e w7 ⟨rfl, g7⟩
        go_wp2_with fail
        go_ret
        exact ⟨by rw [HM.out]; rfl, HG.out.trans (HG6.out.trans g7)⟩
      | false =>
        go_wp2_with fail
        refine kA.mono ?_
        rintro e w7 ⟨rfl, g7⟩
        go_wp2_with fail
        go_ret
        exact ⟨by rw [HM.out]; rfl, HG.out.trans (HG6.out.trans g7)⟩
end Go.Proofs.Ytlfkhinmncbkcaa
