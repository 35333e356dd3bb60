/- The contract of the reference's Same, of two that are the same; of its Value. -/
import Derived.Test.YtkoihniggoelnaaEns
import Derived.Test.YtkoihniggoelnaaVal
import Derived.BigQuiet
namespace Go.Proofs.Ytkoihniggoelnaa
open Go.RowKit Go.Sort

set_option maxHeartbeats 4000000 in
theorem refsame_any (w : World) (p q : Pt) (hp : p.Ok w) (hq : q.Ok w) (he : p.p0 = q.p0) :
    Calls Try.prog 18 #[.agg #[.int .u64 p.n, .int .i64 p.v, p.tv], .agg #[.int .u64 q.n, .int .i64 q.v, q.tv]] w fun e w' => e = .returned (.bool true) ∧ Grows w w' := by
  obtain ⟨pn, pv, ptv, pts⟩ := p
  obtain ⟨qn, qv, qtv, qts⟩ := q
  simp only [Pt.p0, Prod.mk.injEq] at he
  obtain ⟨rfl, rfl, rfl⟩ := he
  obtain ⟨a1, n1, c1, h1⟩ := hp.rt.sl
  obtain ⟨a2, n2, c2, h2⟩ := hq.rt.sl
  simp only at h1 h2
  subst h1 h2
  obtain ⟨W, hW⟩ : ∃ W, W = (w.alloc (.cells #[.int .u64 pn, .int .i64 pv, .slice a1 n1 c1] 30)).alloc (.cells #[.int .u64 pn, .int .i64 pv, .slice a2 n2 c2] 30) := ⟨_, rfl⟩
  have gW : Grows w W := by rw [hW]; exact (Grows.alloc _ _).trans (Grows.alloc _ _)
  have b1 : Box3 W w.heap.size (.int .u64 pn) (.int .i64 pv) (.slice a1 n1 c1) := by rw [hW]; exact (Box3.new _ _ _ _ _ _ rfl).up (Grows.alloc _ _).below
  have b2 : Box3 W (w.heap.size + 1) (.int .u64 pn) (.int .i64 pv) (.slice a2 n2 c2) := by rw [hW]; exact Box3.new _ _ _ _ _ _ (by simp)
  have r1 := (hp.up gW.below).rt.cells
  have r2 := (hq.up gW.below).rt.cells
  rw [sv_length] at r1 r2
  obtain ⟨e1, k1, k2, k3⟩ := r1
  obtain ⟨e2, l1, l2, l3⟩ := r2
  have hn : n1 = n2 := by rw [e1, e2]
  subst hn
  unfold maxLen at k2 l2
  have HN : Hid (n1 = pts.length) := e1
  have HC : Hid _ := And.intro k3 l3
  have k1' : n1 ≤ c1 := by omega
  have l1' : n1 ≤ c2 := by omega
  have HB : Hid _ := And.intro b1 b2
  have HW : Hid _ := And.intro hW gW
  obtain ⟨x0, x1, x2, -⟩ := b1
  obtain ⟨y0, y1, y2, -⟩ := b2
  rw [hW] at x0 x1 x2 y0 y1 y2
  have mixed : Try.prog.follows .mixedOrders = true := by kernel_rfl
  clear hp hq hW gW e1 e2 k1 l1 k3 l3
  go_enter Try.func18, Try.ntmps18
  go_wp2_with fail
  rw [← HW.out.1]
  clear x0 x1 x2 y0 y1 y2
  go_loopg [5] n1 (fun kx v5 wr => ∃ i : Nat, v5 = .int .i64 i ∧ i ≤ n1 ∧ n1 - i ≤ kx ∧ Grows W wr)
  case atStart => exact ⟨0, rfl, by omega, Nat.le_refl _, Grows.refl _⟩
  case round =>
    obtain ⟨i, rfl, hi, hkx, gr⟩ := hrel
    obtain ⟨b1, b2⟩ := HB.out
    obtain ⟨x0, x1, x2, -⟩ := b1.up gr.below
    obtain ⟨y0, y1, y2, -⟩ := b2.up gr.below
    by_cases hlt : i < n1
    · have hltz : (i : Int) < (n1 : Int) := by omega
      have hil : i < pts.length := by have := HN.out; omega
      obtain ⟨p1, o1, rfl, d1⟩ := HC.out.1 (by omega)
      obtain ⟨p2, o2, rfl, d2⟩ := HC.out.2 (by omega)
      have z1 := cell_up gr.below (d1 i _ (sv_get pts i hil))
      have z2 := cell_up gr.below (d2 i _ (sv_get pts i hil))
      generalize pts.getD i [] = t at z1 z2
      have HG : Hid (Grows W wr) := gr
      clear d1 d2 b1 b2 gr
      go_wp2_with fail
      go_quiet (fail)
      have HG2 : ∀ m, Hid (Grows W (wr.drewN m)) := fun m => HG.out.trans (Grows.drewN _ _)
      go_wp2_with fail
      go_roundg (n1 - (i + 1))
      case measure => omega
      case rel => exact ⟨i + 1, by go_num, by omega, Nat.le_refl _, (HG2 _).out⟩
    · have hltz : ¬ (i : Int) < (n1 : Int) := by omega
      go_wp2_with fail
      go_ret
      exact ⟨rfl, HW.out.2.trans gr⟩
set_option maxHeartbeats 4000000 in
theorem refvalue_any (w : World) (k c : Int) (p : Pt) (hp : p.Ok w) :
    Calls Try.prog 20 #[.agg #[.int .i64 k, .int .i64 c], .agg #[.int .u64 p.n, .int .i64 p.v, p.tv]] w fun e w' => e = .returned (.int .i64 (valP k p.p0)) ∧ Grows w w' := by
  obtain ⟨pn, pv, ptv, pts⟩ := p
  obtain ⟨a1, n1, c1, h1⟩ := hp.rt.sl
  simp only at h1
  subst h1
  have r1 := hp.rt.cells
  rw [sv_length] at r1
  have hn := r1.1
  clear hp r1
  by_cases h1 : k = 1
  · subst h1
    go_enter Try.func20, Try.ntmps20
    go_wp2_with fail
    go_ret
    exact ⟨by simp [valP, Pt.p0], (Grows.alloc _ _).trans (Grows.alloc _ _)⟩
  · have h1b : (k == 1) = false := by simp [h1]
    by_cases h5 : k = 5
    · subst h5
      go_enter Try.func20, Try.ntmps20
      go_wp2_with fail
      go_ret
      exact ⟨by simp [valP, Pt.p0], (Grows.alloc _ _).trans (Grows.alloc _ _)⟩
    · have h5b : (k == 5) = false := by simp [h5]
      go_enter Try.func20, Try.ntmps20
      go_wp2_with fail
      go_ret
      exact ⟨by simp [valP, Pt.p0, h1, h5], (Grows.alloc _ _).trans (Grows.alloc _ _)⟩
end Go.Proofs.Ytkoihniggoelnaa
