/- Contract: whole. -/
import Derived.Test.YtgbmigfamefenaaBas
namespace Go.Proofs.Ytgbmigfamefenaa
open Go.Shelf Go.RowKit Go.Maps Go.Sort
set_option linter.unusedVariables false

/-- A part of a set is among some segments. -/
def hasB (l : List Sg) (k : K3) (p : Int) : Bool := l.any fun x => decide (x.1 = k) && decide (x.2.1 = p)
/-- A segment's set is complete among some segments. -/
def whB (l : List Sg) (g : Sg) : Bool := (List.range g.2.2.toNat).all fun p => hasB l g.1 p
theorem hasB_take {l : List Sg} {k : K3} {p : Int} {i : Nat} (hi : i < l.length) : hasB (l.take (i + 1)) k p = (hasB (l.take i) k p || (decide (l[i].1 = k) && decide (l[i].2.1 = p))) := by
  unfold hasB
  rw [List.take_succ_eq_append_getElem hi, List.any_append]
  simp
/-- A row of segments that may be read. -/
structure Sgr (w : World) (v : Value) (l : List Sg) : Prop where
  ex : ∃ a c, v = .slice a l.length c ∧ l.length ≤ c ∧ c ≤ maxLen ∧ (0 < l.length → ∃ b o, a = some ⟨b, o, none⟩ ∧ ∀ i (hi : i < l.length), AtG w b (o + i * 5) l[i])
theorem AtG.up {w w' : World} {b o : Nat} {g : Sg} (h : AtG w b o g) (hb : Below w.heap.size w w') : AtG w' b o g := by
  have up : ∀ o' u, w.cell? ⟨b, o', none⟩ = some u → w'.cell? ⟨b, o', none⟩ = some u := fun o' u hu => (hb.cell (World.block_lt_of_cell? _ _ hu)).trans hu
  exact ⟨up _ _ h.c0, up _ _ h.c1, up _ _ h.c2, up _ _ h.c3, up _ _ h.c4⟩
theorem Sgr.up {w w' : World} {v : Value} {l : List Sg} (h : Sgr w v l) (hb : Below w.heap.size w w') : Sgr w' v l := by
  obtain ⟨a, c, h1, h2, h3, h4⟩ := h.ex
  refine ⟨a, c, h1, h2, h3, fun hp => ?_⟩
  obtain ⟨b, o, e, hc⟩ := h4 hp
  exact ⟨b, o, e, fun i hi => (hc i hi).up hb⟩
theorem Sgr.of {w : World} {base e : Nat} {v : Value} {l : List Sg} (h : w.ownsRow base e 5 v l.length (sgcs l)) : Sgr w v l := ⟨(RdsK.of_own h).segs⟩
set_option maxRecDepth 100000 in
set_option maxHeartbeats 12800000 in
theorem whole_any (w : World) (v : Value) (l : List Sg) (g : Sg) (h : Sgr w v l) (hlen : l.length ≤ 1000) (hc : g.2.2 ≤ 1000) :
    Calls Try.prog 13 #[v, .agg #[.int .i64 g.1.1, .int .i64 g.1.2.1, .int .i64 g.1.2.2, .int .i64 g.2.1, .int .i64 g.2.2]] w fun e w' => e = .returned (.bool (whB l g)) ∧ Grows w w' := by
  have mixed : Try.prog.follows .mixedOrders = true := by kernel_rfl
  obtain ⟨⟨k1, k2, k3⟩, gp, gc⟩ := g
  obtain ⟨W, hW⟩ : ∃ W, W = w.alloc (.cells #[.int .i64 k1, .int .i64 k2, .int .i64 k3, .int .i64 gp, .int .i64 gc] 32) := ⟨_, rfl⟩
  have hGW : Grows w W := by rw [hW]; exact Grows.alloc _ _
  have hx : BxA W w.heap.size 32 #[.int .i64 k1, .int .i64 k2, .int .i64 k3, .int .i64 gp, .int .i64 gc] := by rw [hW]; exact BxA.new _ _ _
  obtain ⟨va, vc, rfl, hv1, hv2, hv3⟩ := (h.up hGW.below).ex
  have HV := hide hv3
  have HX := hide hx
  have HG := hide hGW
  have HW := hide hW
  obtain ⟨n, hn⟩ : ∃ n, n = l.length := ⟨_, rfl⟩
  have HN := hide hn
  rw [← hn] at hv1 hlen
  rw [← hn]
  unfold maxLen at hv2
  simp only at hc ⊢
  obtain ⟨B, hB⟩ : ∃ B, B = whB l ((k1, k2, k3), gp, gc) := ⟨_, rfl⟩
  rw [← hB]
  have HBv : Hid (B = (List.range gc.toNat).all fun p => hasB l (k1, k2, k3) p) := hB
  clear h hGW hx hW hv3 hn hB
  go_enter Try.func13, Try.ntmps13
  go_upto_region 1 with fail
  rw [← HW.out]
  go_upto_region 2 with fail
  go_loopg [5, 6, 7] gc.toNat (fun kx v5 _ _ wr => ∃ (p : Nat), v5 = .int .i64 (p : Int) ∧ (p : Int) ≤ max gc 0 ∧ gc.toNat - p ≤ kx ∧ Hid (∀ q < p, hasB l (k1, k2, k3) q = true) ∧ Hid (Grows W wr))
  case atStart => exact ⟨0, rfl, by omega, Nat.le_refl _, (fun q hq => by omega), Grows.refl _⟩
  case round =>
    obtain ⟨p, rfl, hp, hkx, HD, HGr⟩ := hrel
    have xg := HX.out.up HGr.out.below
    have c4 := xg.cell 4 _ rfl
    by_cases hlt : (p : Int) < gc
    · have hpz : (p : Int) ≤ 1000 := by omega
      have HW1 : Hid (wrap64 ((p : Int) + 1) = (p : Int) + 1) := by apply hide; rw [← IntWalk.i64_left, IntKind.wrap_i64]; omega
      clear xg
      have HPZ := hide hp
      clear hp
      go_wp2_with fail
      clear c4
      go_loopg [6, 7] n (fun kx2 v6 v7 wq => ∃ (i : Nat), v7 = .int .i64 (i : Int) ∧ i ≤ n ∧ n - i ≤ kx2 ∧ v6 = .bool (hasB (l.take i) (k1, k2, k3) p) ∧ Hid (Grows W wq))
      case atStart => exact ⟨0, rfl, Nat.zero_le _, Nat.le_refl _, rfl, HGr⟩
      case round =>
        rename World => wq
        obtain ⟨i, rfl, hi, hkx2, rfl, HGq⟩ := hrel
        by_cases hil : i < n
        · have hiz : (i : Int) < (n : Int) := by omega
          have hll : i < l.length := by have := HN.out; omega
          obtain ⟨vb, vo, rfl, hat⟩ := HV.out (by omega)
          have ha := (hat i hll).up HGq.out.below
          have htk := hasB_take (k := (k1, k2, k3)) (p := (p : Int)) hll
          have xq := HX.out.up HGq.out.below
          obtain ⟨⟨⟨a1, a2, a3⟩, a4, a5⟩, hae⟩ : ∃ a, a = l[i] := ⟨_, rfl⟩
          rw [← hae] at ha htk
          obtain ⟨b0, hb0⟩ : ∃ b, b = hasB (l.take i) (k1, k2, k3) p := ⟨_, rfl⟩
          rw [← hb0] at htk ⊢
          have HTK := hide htk
          have z0 := fun nq os => gro_cell ha.c0 nq os
          have z1 := fun nq os => gro_cell ha.c1 nq os
          have z2 := fun nq os => gro_cell ha.c2 nq os
          have z3 := fun nq os => gro_cell ha.c3 nq os
          have y0 := fun nq os => gro_cell (xq.cell 0 _ rfl) nq os
          have y1 := fun nq os => gro_cell (xq.cell 1 _ rfl) nq os
          have y2 := fun nq os => gro_cell (xq.cell 2 _ rfl) nq os
          simp only at z0 z1 z2 z3
          have HW2 : Hid (wrap64 ((i : Int) + 1) = (i : Int) + 1) := by apply hide; rw [← IntWalk.i64_left, IntKind.wrap_i64]; omega
          clear ha hae hb0 xq htk hat
          have fin : ∀ V : World, Grows wq V → ∀ r : Bool, r = (b0 || (decide ((a1, a2, a3) = (k1, k2, k3)) && decide (a4 = (p : Int)))) → Hid (r = hasB (l.take (i + 1)) (k1, k2, k3) p ∧ Grows W V) := fun V hV r hr => ⟨by rw [hr, HTK.out], HGq.out.trans hV⟩
          have HFIN := hide fin
          clear fin
          have hsplit : b0 = true ∨ (b0 = false ∧ (¬ a1 = k1 ∨ (a1 = k1 ∧ ¬ a2 = k2) ∨ (a1 = k1 ∧ a2 = k2 ∧ ¬ a3 = k3) ∨ (a1 = k1 ∧ a2 = k2 ∧ a3 = k3 ∧ ¬ a4 = (p : Int)) ∨ (a1 = k1 ∧ a2 = k2 ∧ a3 = k3 ∧ a4 = (p : Int)))) := by
            cases b0
            · right
              refine ⟨rfl, ?_⟩
              omega
            · left; rfl
          rcases hsplit with rfl | ⟨rfl, h1 | ⟨rfl, h1⟩ | ⟨rfl, rfl, h1⟩ | ⟨rfl, rfl, rfl, h1⟩ | ⟨rfl, rfl, rfl, h1⟩⟩
          · go_upto_region 8 with fail
            refine wp_region_quiet_grown (by assumption) (by kernel_rfl) ?_
            repeat (go_big_quiet_step (first | fail))
            refine wpQuiet_nil ?_
            intro V hw'
            obtain ⟨⟨nq, osq⟩, hw''⟩ := hw'
            have HR := HFIN.out V (by rw [hw'']; exact ⟨nq, osq, rfl⟩) true (by simp)
            clear hw'' z0 z1 z2 z3 y0 y1 y2
            go_wp2_with fail
            go_roundg (n - (i + 1))
            case measure => omega
            case rel => exact ⟨i + 1, by first | (rw [HW2.out]; rfl) | rfl, hil, Nat.le_refl _, by rw [← HR.out.1], HR.out.2⟩
          · have e1 : (a1 == k1) = false := by simpa using h1
            go_upto_region 8 with fail
            refine wp_region_quiet_grown (by assumption) (by kernel_rfl) ?_
            repeat (go_big_quiet_step (first | fail))
            refine wpQuiet_nil ?_
            intro V hw'
            obtain ⟨⟨nq, osq⟩, hw''⟩ := hw'
            have HR := HFIN.out V (by rw [hw'']; exact ⟨nq, osq, rfl⟩) false (by simp [h1])
            clear hw'' z0 z1 z2 z3 y0 y1 y2
            go_wp2_with fail
            go_roundg (n - (i + 1))
            case measure => omega
            case rel => exact ⟨i + 1, by first | (rw [HW2.out]; rfl) | rfl, hil, Nat.le_refl _, by rw [← HR.out.1], HR.out.2⟩
          · have e1 : (a2 == k2) = false := by simpa using h1
            go_upto_region 8 with fail
            refine wp_region_quiet_grown (by assumption) (by kernel_rfl) ?_
            repeat (go_big_quiet_step (first | fail))
            refine wpQuiet_nil ?_
            intro V hw'
            obtain ⟨⟨nq, osq⟩, hw''⟩ := hw'
            have HR := HFIN.out V (by rw [hw'']; exact ⟨nq, osq, rfl⟩) false (by simp [h1])
            clear hw'' z0 z1 z2 z3 y0 y1 y2
            go_wp2_with fail
            go_roundg (n - (i + 1))
            case measure => omega
            case rel => exact ⟨i + 1, by first | (rw [HW2.out]; rfl) | rfl, hil, Nat.le_refl _, by rw [← HR.out.1], HR.out.2⟩
          · have e1 : (a3 == k3) = false := by simpa using h1
            go_upto_region 8 with fail
            refine wp_region_quiet_grown (by assumption) (by kernel_rfl) ?_
            repeat (go_big_quiet_step (first | fail))
            refine wpQuiet_nil ?_
            intro V hw'
            obtain ⟨⟨nq, osq⟩, hw''⟩ := hw'
            have HR := HFIN.out V (by rw [hw'']; exact ⟨nq, osq, rfl⟩) false (by simp [h1])
            clear hw'' z0 z1 z2 z3 y0 y1 y2
            go_wp2_with fail
            go_roundg (n - (i + 1))
            case measure => omega
            case rel => exact ⟨i + 1, by first | (rw [HW2.out]; rfl) | rfl, hil, Nat.le_refl _, by rw [← HR.out.1], HR.out.2⟩
          · have e1 : (a4 == (p : Int)) = false := by simpa using h1
            go_upto_region 8 with fail
            refine wp_region_quiet_grown (by assumption) (by kernel_rfl) ?_
            repeat (go_big_quiet_step (first | fail))
            refine wpQuiet_nil ?_
            intro V hw'
            obtain ⟨⟨nq, osq⟩, hw''⟩ := hw'
            have HR := HFIN.out V (by rw [hw'']; exact ⟨nq, osq, rfl⟩) false (by simp [h1])
            clear hw'' z0 z1 z2 z3 y0 y1 y2
            go_wp2_with fail
            go_roundg (n - (i + 1))
            case measure => omega
            case rel => exact ⟨i + 1, by first | (rw [HW2.out]; rfl) | rfl, hil, Nat.le_refl _, by rw [← HR.out.1], HR.out.2⟩
          · have e1 : (a4 == (p : Int)) = true := by simpa using h1
            go_upto_region 8 with fail
            refine wp_region_quiet_grown (by assumption) (by kernel_rfl) ?_
            repeat (go_big_quiet_step (first | fail))
            refine wpQuiet_nil ?_
            intro V hw'
            obtain ⟨⟨nq, osq⟩, hw''⟩ := hw'
            have HR := HFIN.out V (by rw [hw'']; exact ⟨nq, osq, rfl⟩) true (by simp [h1])
            clear hw'' z0 z1 z2 z3 y0 y1 y2
            go_wp2_with fail
            go_roundg (n - (i + 1))
            case measure => omega
            case rel => exact ⟨i + 1, by first | (rw [HW2.out]; rfl) | rfl, hil, Nat.le_refl _, by rw [← HR.out.1], HR.out.2⟩
        · have hiz : ¬ (i : Int) < (n : Int) := by omega
          have hfull : hasB (l.take i) (k1, k2, k3) p = hasB l (k1, k2, k3) p := by rw [List.take_of_length_le (by have := HN.out; omega)]
          rw [hfull]
          obtain ⟨b0, hb0⟩ : ∃ b, b = hasB l (k1, k2, k3) p := ⟨_, rfl⟩
          rw [← hb0]
          have HB0 := hide hb0
          clear hb0 hfull
          cases b0
          case false =>
            have HF : Hid (B = false) := by
              apply hide
              rw [HBv.out, List.all_eq_false]
              exact ⟨p, List.mem_range.2 (by omega), by rw [← HB0.out]; simp⟩
            go_wp2_with fail
            go_ret
            exact ⟨by rw [HF.out]; rfl, HG.out.trans HGq.out⟩
          case true =>
            go_wp2_with fail
            go_roundg (gc.toNat - (p + 1))
            case measure => omega
            case rel =>
              refine ⟨p + 1, by first | (rw [HW1.out]; rfl) | rfl, by have := HPZ.out; omega, Nat.le_refl _, ?_, HGq⟩
              intro q hq
              by_cases hqp : q = p
              · rw [hqp]; exact HB0.out.symm
              · exact HD.out q (by omega)
    · have HT : Hid (B = true) := by
        apply hide
        rw [HBv.out, List.all_eq_true]
        intro q hq
        exact HD.out q (by have := List.mem_range.1 hq; omega)
      clear xg
      go_wp2_with fail
      go_ret
      exact ⟨by rw [HT.out]; rfl, HG.out.trans HGr.out⟩
end Go.Proofs.Ytgbmigfamefenaa
