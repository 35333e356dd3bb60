/- Contracts: Same, SamePieces, of rows that say the same. -/
import Derived.Test.YtgbmigfamefenaaCut
namespace Go.Proofs.Ytgbmigfamefenaa
open Go.Shelf Go.RowKit Go.Maps Go.Sort
set_option linter.unusedVariables false

set_option maxRecDepth 100000 in
set_option maxHeartbeats 6400000 in
theorem sameP_any (w : World) (v1 v2 : Value) (l : List Pc) (h1 : Pgr w v1 l) (h2 : Pgr w v2 l) (hlen : l.length ≤ 3000000) : Calls Try.prog 20 #[v1, v2] w fun e w' => e = .returned (.bool true) ∧ Grows w w' := by
  have mixed : Try.prog.follows .mixedOrders = true := by kernel_rfl
  obtain ⟨a1, c1, rfl, p1, p2, p3⟩ := h1.ex
  obtain ⟨a2, c2, rfl, q1, q2, q3⟩ := h2.ex
  have HP := hide p3
  have HQ := hide q3
  obtain ⟨n, hn⟩ : ∃ n, n = l.length := ⟨_, rfl⟩
  have HN := hide hn
  rw [← hn] at p1 q1 hlen
  rw [← hn]
  unfold maxLen at p2 q2
  clear h1 h2 p3 q3 hn
  go_enter Try.func20, Try.ntmps20
  go_wp2_with fail
  go_loopg [5] n (fun kx v5 wr => ∃ (i : Nat), v5 = .int .i64 (i : Int) ∧ i ≤ n ∧ n - i ≤ kx ∧ Hid (Grows w wr))
  case atStart => exact ⟨0, rfl, Nat.zero_le _, Nat.le_refl _, Grows.refl _⟩
  case round =>
    obtain ⟨i, rfl, hi, hkx, HG⟩ := hrel
    by_cases hlt : i < n
    · have hltz : (i : Int) < (n : Int) := by omega
      have hil : i < l.length := by have := HN.out; omega
      obtain ⟨b1, o1, rfl, hx⟩ := HP.out (by omega)
      obtain ⟨b2, o2, rfl, hy⟩ := HQ.out (by omega)
      have ax := (hx i hil).up HG.out.below
      have ay := (hy i hil).up HG.out.below
      have x0 := fun nq os => gro_cell ax.g.c0 nq os
      have x1 := fun nq os => gro_cell ax.g.c1 nq os
      have x2 := fun nq os => gro_cell ax.g.c2 nq os
      have x3 := fun nq os => gro_cell ax.g.c3 nq os
      have x4 := fun nq os => gro_cell ax.g.c4 nq os
      have x5 := fun nq os => gro_cell ax.c5 nq os
      have x6 := fun nq os => gro_cell ax.c6 nq os
      have y0 := fun nq os => gro_cell ay.g.c0 nq os
      have y1 := fun nq os => gro_cell ay.g.c1 nq os
      have y2 := fun nq os => gro_cell ay.g.c2 nq os
      have y3 := fun nq os => gro_cell ay.g.c3 nq os
      have y4 := fun nq os => gro_cell ay.g.c4 nq os
      have y5 := fun nq os => gro_cell ay.c5 nq os
      have y6 := fun nq os => gro_cell ay.c6 nq os
      obtain ⟨⟨⟨⟨g1, g2, g3⟩, g4, g5⟩, g6, g7⟩, hg⟩ : ∃ g, g = l[i] := ⟨_, rfl⟩
      rw [← hg] at x0 x1 x2 x3 x4 x5 x6 y0 y1 y2 y3 y4 y5 y6
      simp only at x0 x1 x2 x3 x4 x5 x6 y0 y1 y2 y3 y4 y5 y6
      have HW1 : Hid (wrap64 ((i : Int) + 1) = (i : Int) + 1) := by apply hide; rw [← IntWalk.i64_left, IntKind.wrap_i64]; omega
      clear ax ay hx hy hg
      go_upto_region 6 with fail
      refine wp_region_quiet_grown (by assumption) (by kernel_rfl) ?_
      repeat (go_big_quiet_step (first | fail))
      refine wpQuiet_nil ?_
      intro V hw'
      obtain ⟨⟨nq, osq⟩, hw''⟩ := hw'
      have HGV : Hid (Grows w V) := by apply hide; rw [hw'']; exact HG.out.trans ⟨nq, osq, rfl⟩
      clear hw'' x0 x1 x2 x3 x4 x5 x6 y0 y1 y2 y3 y4 y5 y6
      go_wp2_with fail
      go_roundg (n - (i + 1))
      case measure => omega
      case rel => exact ⟨i + 1, by first | (rw [HW1.out]; rfl) | rfl, hlt, Nat.le_refl _, HGV⟩
    · have hltz : ¬ (i : Int) < (n : Int) := by omega
      go_wp2_with fail
      go_ret
      exact ⟨rfl, HG.out⟩
set_option maxRecDepth 100000 in
set_option maxHeartbeats 6400000 in
theorem same_any (w : World) (v1 v2 : Value) (l : List Sg) (h1 : Sgr w v1 l) (h2 : Sgr w v2 l) (hlen : l.length ≤ 3000000) : Calls Try.prog 21 #[v1, v2] w fun e w' => e = .returned (.bool true) ∧ Grows w w' := by
  have mixed : Try.prog.follows .mixedOrders = true := by kernel_rfl
  obtain ⟨a1, c1, rfl, p1, p2, p3⟩ := h1.ex
  obtain ⟨a2, c2, rfl, q1, q2, q3⟩ := h2.ex
  have HP := hide p3
  have HQ := hide q3
  obtain ⟨n, hn⟩ : ∃ n, n = l.length := ⟨_, rfl⟩
  have HN := hide hn
  rw [← hn] at p1 q1 hlen
  rw [← hn]
  unfold maxLen at p2 q2
  clear h1 h2 p3 q3 hn
  go_enter Try.func21, Try.ntmps21
  go_wp2_with fail
  go_loopg [5] n (fun kx v5 wr => ∃ (i : Nat), v5 = .int .i64 (i : Int) ∧ i ≤ n ∧ n - i ≤ kx ∧ Hid (Grows w wr))
  case atStart => exact ⟨0, rfl, Nat.zero_le _, Nat.le_refl _, Grows.refl _⟩
  case round =>
    obtain ⟨i, rfl, hi, hkx, HG⟩ := hrel
    by_cases hlt : i < n
    · have hltz : (i : Int) < (n : Int) := by omega
      have hil : i < l.length := by have := HN.out; omega
      obtain ⟨b1, o1, rfl, hx⟩ := HP.out (by omega)
      obtain ⟨b2, o2, rfl, hy⟩ := HQ.out (by omega)
      have ax := (hx i hil).up HG.out.below
      have ay := (hy i hil).up HG.out.below
      have x0 := fun nq os => gro_cell ax.c0 nq os
      have x1 := fun nq os => gro_cell ax.c1 nq os
      have x2 := fun nq os => gro_cell ax.c2 nq os
      have x3 := fun nq os => gro_cell ax.c3 nq os
      have x4 := fun nq os => gro_cell ax.c4 nq os
      have y0 := fun nq os => gro_cell ay.c0 nq os
      have y1 := fun nq os => gro_cell ay.c1 nq os
      have y2 := fun nq os => gro_cell ay.c2 nq os
      have y3 := fun nq os => gro_cell ay.c3 nq os
      have y4 := fun nq os => gro_cell ay.c4 nq os
      obtain ⟨⟨⟨g1, g2, g3⟩, g4, g5⟩, hg⟩ : ∃ g, g = l[i] := ⟨_, rfl⟩
      rw [← hg] at x0 x1 x2 x3 x4 y0 y1 y2 y3 y4
      simp only at x0 x1 x2 x3 x4 y0 y1 y2 y3 y4
      have HW1 : Hid (wrap64 ((i : Int) + 1) = (i : Int) + 1) := by apply hide; rw [← IntWalk.i64_left, IntKind.wrap_i64]; omega
      clear ax ay hx hy hg
      go_upto_region 6 with fail
      refine wp_region_quiet_grown (by assumption) (by kernel_rfl) ?_
      repeat (go_big_quiet_step (first | fail))
      refine wpQuiet_nil ?_
      intro V hw'
      obtain ⟨⟨nq, osq⟩, hw''⟩ := hw'
      have HGV : Hid (Grows w V) := by apply hide; rw [hw'']; exact HG.out.trans ⟨nq, osq, rfl⟩
      clear hw'' x0 x1 x2 x3 x4 y0 y1 y2 y3 y4
      go_wp2_with fail
      go_roundg (n - (i + 1))
      case measure => omega
      case rel => exact ⟨i + 1, by first | (rw [HW1.out]; rfl) | rfl, hlt, Nat.le_refl _, HGV⟩
    · have hltz : ¬ (i : Int) < (n : Int) := by omega
      go_wp2_with fail
      go_ret
      exact ⟨rfl, HG.out⟩
theorem Pgr.fr {w w' : World} {F : Nat → Prop} {v : Value} {l : List Pc} (h : Pgr w v l) (hb : Fr F w w') (hn : ∀ r, v.ownBlock = some r → ¬ F r) : Pgr w' v l := by
  obtain ⟨a, c, h1, h2, h3, h4⟩ := h.ex
  refine ⟨a, c, h1, h2, h3, fun hp => ?_⟩
  obtain ⟨b, o, e, hc⟩ := h4 hp
  refine ⟨b, o, e, fun i hi => (hc i hi).fr hb (hn b ?_)⟩
  rw [h1, e]
  rfl
theorem fr_set {w : World} {b i : Nat} {u : Value} : Fr (fun j => j = b) w (w.setCell ⟨b, i, none⟩ u) := Fr.of_grown (grown_setCell (w := w) (R := b) (j := i) (u := u)) fun j hj => .inl (Option.some.inj hj).symm
theorem Fr.mono {F G : Nat → Prop} {w w' : World} (h : Fr F w w') (hF : ∀ i, F i → G i) : Fr G w w' := ⟨h.os, h.tape, h.output, h.size, fun i hi hg => h.block i hi fun hf => hg (hF i hf)⟩
end Go.Proofs.Ytgbmigfamefenaa
