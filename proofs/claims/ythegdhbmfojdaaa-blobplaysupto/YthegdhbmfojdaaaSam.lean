/- Two rows of texts are the same. -/
import Derived.Test.YthegdhbmfojdaaaDsk
import Derived.Shelf.SlSortCmp.QuietGrown
import Derived.BigQuiet
namespace Go.Proofs.Ythegdhbmfojdaaa
open Go.RowKit Go.Maps Go.Sort

theorem Rds.len {w : World} {v : Value} {ts : List Str} (h : Rds w v (sv ts)) : ∃ a c, v = .slice a ts.length c ∧ ts.length ≤ c ∧ c ≤ maxLen ∧ (0 < ts.length → ∃ b o, a = some ⟨b, o, none⟩ ∧ ∀ i (hi : i < ts.length), w.cell? ⟨b, o + i, none⟩ = some (.string ⟨ts[i].toArray⟩)) := by
  obtain ⟨a, c, e, h1, h2, h3, h4⟩ := h
  rw [sv_length] at e h1 h3
  refine ⟨a, c, e, h1, h2, fun hp => ?_⟩
  cases a with
  | none => have := (h3 rfl).1; omega
  | some ad =>
    obtain ⟨b, o, sp⟩ := ad
    have hg : ∀ i (hi : i < ts.length), (sv ts)[i]? = some (.string ⟨ts[i].toArray⟩) := fun i hi => by simp [sv, hi]
    have hs : sp = none := by
      have := World.cell?_spot (h4 _ rfl 0 _ (hg 0 hp))
      simpa [Addr.add] using this
    subst hs
    exact ⟨b, o, rfl, fun i hi => by rw [← Addr.add_lit]; exact h4 _ rfl i _ (hg i hi)⟩
theorem below_gr0 (w : World) (q : Nat) (os : Array Obj) : Below w.heap.size w (Go.Sort.grow (w.drewN q) os) :=
  ⟨rfl, rfl, rfl, by show _ ≤ ((w.drewN q).heap ++ os).size; rw [Array.size_append]; exact Nat.le_add_right _ _, fun i hi => by
    show ((w.drewN q).heap ++ os)[i]? = _
    rw [Array.getElem?_append_left (by exact hi)]
    rfl⟩
theorem cell_gro0 {w : World} {a : Addr} {v : Value} (h : w.cell? a = some v) (nq : Nat) (os : Array Obj) : (Go.Sort.grow (w.drewN nq) os).cell? a = some v := by
  rw [(below_gr0 w nq os).cell (World.block_lt_of_cell? _ _ h), h]
set_option maxRecDepth 100000 in
set_option maxHeartbeats 1600000 in
theorem refsame_any (w : World) (a b : Value) (l m : List Str) (ha : Rds w a (sv l)) (hb : Rds w b (sv m)) : Calls Try.prog 31 #[a, b] w fun e w' => e = .returned (.bool (decide (l = m))) ∧ Below w.heap.size w w' := by
  obtain ⟨aa, ac, rfl, a1, a2, a3⟩ := ha.len
  obtain ⟨ba, bc, rfl, b1, b2, b3⟩ := hb.len
  obtain ⟨n, hn⟩ : ∃ n, n = l.length := ⟨_, rfl⟩
  obtain ⟨k, hk⟩ : ∃ k, k = m.length := ⟨_, rfl⟩
  have hn' := hn
  have hk' := hk
  rw [← hn] at a1
  rw [← hk] at b1
  rw [← hn, ← hk]
  unfold maxLen at a2 b2
  have HA : Hid (0 < n → ∃ b o, aa = some ⟨b, o, none⟩ ∧ ∀ i (hi : i < l.length), w.cell? ⟨b, o + i, none⟩ = some (.string ⟨l[i].toArray⟩)) := fun h => a3 (by omega)
  have HB : Hid (0 < k → ∃ b o, ba = some ⟨b, o, none⟩ ∧ ∀ i (hi : i < m.length), w.cell? ⟨b, o + i, none⟩ = some (.string ⟨m[i].toArray⟩)) := fun h => b3 (by omega)
  have HN : Hid (n = l.length ∧ k = m.length) := ⟨hn, hk⟩
  clear ha hb a3 b3 hn hk hn' hk'
  go_enter Try.func31, Try.ntmps31
  by_cases hnk : n = k
  · subst hnk
    have mixed : Try.prog.follows .mixedOrders = true := by kernel_rfl
    go_wp2_with fail
    go_loopg [5] n (fun kx v5 wr => ∃ (i : Nat), v5 = .int .i64 (i : Int) ∧ i ≤ n ∧ n - i ≤ kx ∧ Hid (l.take i = m.take i) ∧ Hid (Below w.heap.size w wr))
    case atStart => exact ⟨0, rfl, Nat.zero_le _, Nat.le_refl _, by apply hide; simp, Below.refl _ _⟩
    case round =>
      obtain ⟨i, rfl, hi, hkx, HT, HW⟩ := hrel
      by_cases hlt : i < n
      · have hltz : (i : Int) < (n : Int) := by omega
        obtain ⟨xb, xo, rfl, xc⟩ := HA.out (by omega)
        obtain ⟨yb, yo, rfl, yc⟩ := HB.out (by omega)
        have hil : i < l.length := by have := HN.out.1; omega
        have him : i < m.length := by have := HN.out.2; omega
        have x0 := xc i hil
        have y0 := yc i him
        have x1 : wr.cell? _ = _ := (HW.out.cell (World.block_lt_of_cell? _ _ x0)).trans x0
        have y1 : wr.cell? _ = _ := (HW.out.cell (World.block_lt_of_cell? _ _ y0)).trans y0
        have HTK : Hid (l[i] = m[i] → l.take (i + 1) = m.take (i + 1)) := by
          apply hide
          intro e
          rw [List.take_add_one (l := l), List.take_add_one (l := m), HT.out, List.getElem?_eq_getElem hil, List.getElem?_eq_getElem him, e]
        obtain ⟨p, hp⟩ : ∃ p, p = l[i] := ⟨_, rfl⟩
        obtain ⟨q, hq⟩ : ∃ q, q = m[i] := ⟨_, rfl⟩
        rw [← hp] at x1
        rw [← hq] at y1
        rw [← hp, ← hq] at HTK
        have HPQ : Hid (l = m → p = q) := fun e => by subst e; rw [hp, hq]
        have zx := fun nq os => cell_gro0 x1 nq os
        have zy := fun nq os => cell_gro0 y1 nq os
        have hw1 : wrap64 ((i : Int) + 1) = (i : Int) + 1 := by rw [← IntWalk.i64_left, IntKind.wrap_i64]; omega
        clear xc yc x0 y0 x1 y1 hp hq
        by_cases he : p = q
        · have HTE : Hid (l.take (i + 1) = m.take (i + 1)) := HTK.out he
          clear HTK HPQ
          subst he
          go_wp2_with fail
          refine wp_region_quiet_grown (by assumption) (by kernel_rfl) ?_
          repeat (go_big_quiet_step (fail))
          refine wpQuiet_nil ?_
          intro T hw'
          obtain ⟨⟨nq, osq⟩, hw''⟩ := hw'
          have HBT : Hid (Below w.heap.size w T) := by apply hide; rw [hw'']; exact HW.out.trans ((below_gr0 wr nq osq).mono HW.out.size)
          clear hw'' zx zy
          go_wp2_with fail
          go_roundg (n - (i + 1))
          case measure => exact Nat.lt_of_lt_of_le (Nat.sub_lt_sub_left hlt (Nat.lt_succ_self i)) hkx
          case rel => exact ⟨i + 1, by first | rfl | (rw [hw1]; rfl), hlt, Nat.le_refl _, HTE, HBT⟩
        · have he2 : (p == q) = false := by simpa using he
          have he3 : (p != q) = true := by simpa using he
          have HNE : Hid (¬ l = m) := fun e => he (HPQ.out e)
          go_wp2_with fail
          refine wp_region_quiet_grown (by assumption) (by kernel_rfl) ?_
          repeat (go_big_quiet_step (fail))
          refine wpQuiet_nil ?_
          intro T hw'
          obtain ⟨⟨nq, osq⟩, hw''⟩ := hw'
          have HBT : Hid (Below w.heap.size w T) := by apply hide; rw [hw'']; exact HW.out.trans ((below_gr0 wr nq osq).mono HW.out.size)
          clear hw'' zx zy
          go_wp2_with fail
          go_ret
          exact ⟨by rw [decide_eq_false HNE.out]; rfl, HBT.out⟩
      · have hltz : ¬ (i : Int) < (n : Int) := by omega
        have HEQ : Hid (l = m) := by
          apply hide
          have := HT.out
          have h1 := HN.out.1
          have h2 := HN.out.2
          rw [List.take_of_length_le (by omega), List.take_of_length_le (by omega)] at this
          exact this
        go_wp2_with fail
        go_ret
        exact ⟨by rw [decide_eq_true HEQ.out]; rfl, HW.out⟩
  · have hnz : ¬ (n : Int) = (k : Int) := by omega
    have HNE : Hid (¬ l = m) := fun e => hnk (by rw [HN.out.1, HN.out.2, e])
    go_wp2_with fail
    go_ret
    exact ⟨by rw [decide_eq_false HNE.out]; rfl, Below.refl _ _⟩
end Go.Proofs.Ythegdhbmfojdaaa
