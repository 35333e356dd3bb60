/- Batches. -/
import Derived.Test.YtmnlkmgpikilbaaBhd
import Derived.Test.YtmnlkmgpikilbaaStA
namespace Go.Proofs.Ytmnlkmgpikilbaa
open Go.RowKit Go.Maps Go.Sort
set_option linter.unusedVariables false

/-- Batches' cells. -/
def btc (y : Kp × Value) : List Value := [.int .i64 y.1.num, .int .u64 (y.1.fr : Int), .int .u64 (y.1.up : Int), y.2]
def btcs (Y : List (Kp × Value)) : List Value := Y.flatMap btc
theorem btcs_append (Y Z : List (Kp × Value)) : btcs (Y ++ Z) = btcs Y ++ btcs Z := by simp [btcs]
theorem btcs_length (Z : List (Kp × Value)) : (btcs Z).length = Z.length * 4 := by
  unfold btcs
  induction Z with
  | nil => rfl
  | cons p Z ih => rw [List.flatMap_cons, List.length_append, ih]; simp [btc]; omega
theorem btcs_get : ∀ (Z : List (Kp × Value)) (i j : Nat) (h : i < Z.length) (hj : j < 4), (btcs Z)[i * 4 + j]? = (btc Z[i])[j]?
  | [], i, j, h, _ => by simp at h
  | p :: Z, 0, j, h, hj => by
    show ((btc p) ++ btcs Z)[0 * 4 + j]? = _
    rw [Nat.zero_mul, Nat.zero_add, List.getElem?_append_left (by simpa [btc] using hj)]
    rfl
  | p :: Z, i + 1, j, h, hj => by
    show ((btc p) ++ btcs Z)[(i + 1) * 4 + j]? = _
    rw [List.getElem?_append_right (by simp [btc]; omega), show (i + 1) * 4 + j - (btc p).length = i * 4 + j by simp [btc]; omega, btcs_get Z i j (by simpa using h) hj]
    rfl
theorem Try.info_batI : (Try.prog.info? 51).map (fun i => (i.zero.map (·.cells.size), i.size, i.bytes)) = some (some 4, 4, 48) := by kernel_rfl
theorem ChR.blk {b : Nat} {w w' : World} {l : Int} {ts : List Int} {v : Value} (h : ChR b w l ts v) (hf : ∀ r, b ≤ r → r < w.heap.size → w'.heap[r]? = w.heap[r]?) : ChR b w' l ts v := by
  obtain ⟨ss, gv, h1, h2, h3⟩ := h
  exact ⟨ss, gv, h1, own_blk h2 fun r hr => hf r (World.ownsRow.lt h2 r hr).1 (World.ownsRow.lt h2 r hr).2, fun k => own_blk (h3 k) fun r hr => hf r (World.ownsRow.lt (h3 k) r hr).1 (World.ownsRow.lt (h3 k) r hr).2⟩
theorem ChR.up {b : Nat} {w w' : World} {l : Int} {ts : List Int} {v : Value} (h : ChR b w l ts v) (hb : Below w.heap.size w w') : ChR b w' l ts v := h.blk fun r _ hr => hb.block r hr
theorem ChR.from {a b : Nat} {w : World} {l : Int} {ts : List Int} {v : Value} (h : ChR b w l ts v) (hb : a ≤ b) : ChR a w l ts v := by
  obtain ⟨ss, gv, h1, h2, h3⟩ := h
  exact ⟨ss, gv, h1, own_mono h2 hb, fun k => own_mono (h3 k) hb⟩
theorem ChO.r {w0 w : World} {l : Int} {ts : List Int} {v : Value} (h : ChO w0 w l ts v) : ChR w0.heap.size w l ts v := h.ex
theorem litB {w : World} {g : Nat} {y : Kp × Value} {t : TypeId} (h : BxA w g t #[.int .i64 y.1.num, .int .u64 (y.1.fr : Int), .int .u64 (y.1.up : Int), y.2]) : RdsK 4 w (.slice (some ⟨g, 0, none⟩) 1 1) 1 (btc y) := by
  refine ⟨some ⟨g, 0, none⟩, 1, rfl, rfl, Nat.le_refl _, by decide, (fun h => by cases h), ?_⟩
  rintro ad ⟨rfl⟩ j u hj
  rw [Addr.add_lit]
  have := h.cell j u (by simpa [btc] using hj)
  simpa using this
theorem btc_one {b : Nat} {w : World} {l : Int} {ts : List Int} {v : Value} {p : Kp} (h : ChR b w l ts v) : ∀ u ∈ btc (p, v), u.oneCell' = true := by
  obtain ⟨ss, gv, h1, h2, h3⟩ := h
  obtain ⟨a, c, rfl⟩ := own_sl h2
  intro u hu
  simp only [btc, List.mem_cons, List.not_mem_nil, or_false] at hu
  rcases hu with rfl | rfl | rfl | rfl <;> rfl
/-- Batches in memory. -/
structure BtO (b : Nat) (w : World) (l : Int) (Z : List Kp) (v : Value) : Prop where
  ex : ∃ Y : List (Kp × Value), Y.map Prod.fst = Z ∧ w.ownsRow b 51 4 v Z.length (btcs Y) ∧ ∀ y ∈ Y, ChR b w l y.1.ts y.2
/-- The same, under way. -/
structure BtW (b : Nat) (w : World) (l : Int) (Z : List Kp) (Y : List (Kp × Value)) (v : Value) : Prop where
  fst : Y.map Prod.fst = Z
  o : w.ownsRow b 51 4 v Z.length (btcs Y)
  ch : ∀ y ∈ Y, ChR b w l y.1.ts y.2
theorem BtW.up {b : Nat} {w w' : World} {l : Int} {Z : List Kp} {Y : List (Kp × Value)} {v : Value} (h : BtW b w l Z Y v) (hb : Below w.heap.size w w') : BtW b w' l Z Y v :=
  ⟨h.fst, own_blk h.o fun r hr => hb.block r (World.ownsRow.lt h.o r hr).2, fun y hy => (h.ch y hy).up hb⟩
theorem ChR.ne {b : Nat} {w : World} {l : Int} {ts : List Int} {v : Value} (h : ChR b w l ts v) {w' : World} {b2 e k n : Nat} {u : Value} {xs : List Value} (hu : w.ownsRow b2 e k u n xs) (h1 : 69 ≠ e) (h2 : 38 ≠ e) (hg : ∀ r, r < w.heap.size → u.ownBlock ≠ some r → w'.heap[r]? = w.heap[r]?) : ChR b w' l ts v := by
  obtain ⟨ss, gv, h3, h4, h5⟩ := h
  exact ⟨ss, gv, h3, own_blk h4 fun r hr => hg r (World.ownsRow.lt h4 r hr).2 (own_diff h4 hu h1 r hr), fun k => own_blk (h5 k) fun r hr => hg r (World.ownsRow.lt (h5 k) r hr).2 (own_diff (h5 k) hu h2 r hr)⟩
theorem BtW.snoc {b : Nat} {w w' : World} {l : Int} {Z : List Kp} {Y : List (Kp × Value)} {v v' : Value} {p : Kp} {u : Value} (h : BtW b w l Z Y v) (hu : ChR b w l p.ts u) (hg : w.grownBy w' v.ownBlock) (ho : w'.ownsRow b 51 4 v' (Z.length + 1) (btcs Y ++ btc (p, u))) : BtW b w' l (Z ++ [p]) (Y ++ [(p, u)]) v' := by
  have hf : ∀ r, r < w.heap.size → v.ownBlock ≠ some r → w'.heap[r]? = w.heap[r]? := fun r h1 h2 => hg.block r h1 fun e => h2 e.symm
  refine ⟨by rw [List.map_append, h.fst]; rfl, ?_, fun y hy => ?_⟩
  · rw [List.length_append, btcs_append, show btcs [(p, u)] = btc (p, u) by simp [btcs]]
    exact ho
  · rcases List.mem_append.1 hy with q | q
    · exact (h.ch y q).ne h.o (by decide) (by decide) hf
    · simp at q
      subst q
      exact hu.ne h.o (by decide) (by decide) hf
set_option maxRecDepth 20000 in
set_option maxHeartbeats 4000000 in
theorem batches_any (w : World) (x : Nat) (F : Nat → Prop) (l : Int) (sv : Value) (Z : List Kp) (o : Kp) (h : InZ w x F l sv Z o) (hl : 1 ≤ l ∧ l ≤ 1099511627776) (hZ : Z.length ≤ 100000) (hbs : ∀ p ∈ Z, p.ts.length ≤ 100000) :
    Calls Try.prog 13 #[.pointer (some ⟨x, 0, none⟩)] w fun e w' => ∃ v, e = .returned v ∧ BtO w.heap.size w' l Z v ∧ Below w.heap.size w w' := by
  have kM := made_any _ x F l sv Z o h hl.1
  obtain ⟨i0, z0, hi0, hz0, hz1, hz2, hz3⟩ := info_partsI Try.info_batI
  obtain ⟨sa, sc, hs⟩ := h.s.sl
  obtain ⟨N, hN⟩ : ∃ N, N = Z.length := ⟨_, rfl⟩
  rw [← hN] at hs
  have c3 : w.cell? ⟨x, 3, none⟩ = some (.slice sa N sc) := by rw [← hs]; exact h.b.cell 3 _ rfl
  have hN1 : N ≤ 100000 := by omega
  have H := hide h
  have HS := hide hs
  have HN := hide hN
  have HBS := hide hbs
  have HL := hide hl
  clear h hs hN hbs hZ hl
  go_enter Try.func13, Try.ntmps13
  go_upto_region 5 with (go_at_call 33; refine kM.mono ?_; rintro e w1 ⟨he1, hw1⟩; have hw1 := hw1.symm; subst he1; subst hw1)
  clear c3 kM
  go_loopg [3, 14] N (fun kx v3 v14 wr => ∃ (i : Nat) (x3 : Value) (Y : List (Kp × Value)), x3 = v3 ∧ v14 = .int .i64 (i : Int) ∧ i ≤ N ∧ N - i ≤ kx ∧ Hid (BtW w.heap.size wr l (Z.take i) Y x3) ∧ Hid (Below w.heap.size w wr))
  case atStart => exact ⟨0, _, [], rfl, rfl, Nat.zero_le _, Nat.le_refl _, ⟨rfl, ⟨rfl, .inl ⟨rfl, rfl⟩⟩, fun y hy => by cases hy⟩, Below.refl _ _⟩
  case round =>
    obtain ⟨i, x3, Y, hx3, rfl, hi, hkx, HO, HBW⟩ := hrel
    subst hx3
    by_cases hlt : i < N
    · have hltz : (i : Int) < (N : Int) := by omega
      have hil : i < Z.length := by rw [← HN.out]; exact hlt
      obtain ⟨g, q, c, hsv, hc1, hc2, k0, k1, k2, k3, k4⟩ := kept_cells H.out.s i hil
      rw [HS.out] at hsv
      injection hsv with e1 e2 e3
      subst e1
      subst e3
      clear e2
      rw [← HN.out] at hc1
      obtain ⟨p, hp⟩ : ∃ p, p = Z[i] := ⟨_, rfl⟩
      rw [← hp] at k0 k1 k2 k4
      have hpm : p ∈ Z := by rw [hp]; exact List.getElem_mem hil
      obtain ⟨pa, pc, hpv⟩ := own_sl (H.out.e p hpm).o
      rw [hpv] at k4
      have m0 := cell_upB HBW.out k0
      have m1 := cell_upB HBW.out k1
      have m2 := cell_upB HBW.out k2
      have m3 := cell_upB HBW.out k3
      have m4 := cell_upB HBW.out k4
      have HP := hide hp
      have HPM := hide hpm
      have HPV := hide hpv
      obtain ⟨pn, hpn⟩ : ∃ pn, pn = p.ts.length := ⟨_, rfl⟩
      rw [← hpn] at m4 HPV
      have HPN := hide hpn
      clear k0 k1 k2 k3 k4 hp hpm hpv hpn
      have hti : (Z.take i).length = i := by rw [List.length_take]; omega
      go_upto_region 7 with fail
      have hX8 : BxA (wr.alloc (.cells #[.int .i64 p.num, .int .u64 (p.fr : Int), .int .u64 (p.up : Int), nl, .slice pa pn pc] 80)) wr.heap.size 80 #[.int .i64 p.num, .int .u64 (p.fr : Int), .int .u64 (p.up : Int), nl, .slice pa pn pc] := BxA.new _ _ _
      have hb8 : Below wr.heap.size wr (wr.alloc (.cells #[.int .i64 p.num, .int .u64 (p.fr : Int), .int .u64 (p.up : Int), nl, .slice pa pn pc] 80)) := (Below.refl _ _).alloc (Nat.le_refl _) _
      have HB8 := hide (HBW.out.trans (hb8.mono HBW.out.size))
      have HO8 := hide (HO.out.up hb8)
      generalize hW8 : wr.alloc (.cells #[.int .i64 p.num, .int .u64 (p.fr : Int), .int .u64 (p.up : Int), nl, .slice pa pn pc] 80) = W8 at *
      generalize wr.heap.size = g8 at *
      have t0 : W8.cell? ⟨g8, 0, none⟩ = some (.int .i64 p.num) := hX8.cell 0 _ rfl
      have t1 : W8.cell? ⟨g8, 1, none⟩ = some (.int .u64 (p.fr : Int)) := hX8.cell 1 _ rfl
      have t2 : W8.cell? ⟨g8, 2, none⟩ = some (.int .u64 (p.up : Int)) := hX8.cell 2 _ rfl
      have t3 : W8.cell? ⟨g8, 3, none⟩ = some nl := hX8.cell 3 _ rfl
      have t4 : W8.cell? ⟨g8, 4, none⟩ = some (.slice pa pn pc) := hX8.cell 4 _ rfl
      have cl : W8.cell? ⟨x, 2, none⟩ = some (.int .i64 l) := cell_upB HB8.out (H.out.b.cell 2 _ rfl)
      have kT := fun W (hW : ∀ r : Nat, W.heap[r]? = W8.heap[r]?) => told_any W F p ((H.out.e p HPM.out).frame fun r hr => by rw [hW]; exact HB8.out.block r (World.ownsRow.lt (H.out.e p HPM.out).o r hr).2) l HL.out (HBS.out p HPM.out)
      rw [show kpa p = #[.int .i64 p.num, .int .u64 (p.fr : Int), .int .u64 (p.up : Int), nl, .slice pa pn pc] by unfold kpa; rw [HPV.out]] at kT
      clear hW8 hb8 hX8 m0 m1 m2 m3 m4
      go_region_law (first
        | (go_simp
           go_at_call 34
           refine (kT W8.drew (fun r => rfl)).mono ?_
           rintro e w4 ⟨v4, he4, hc4⟩
           subst he4
           have hbx := (Grows.drew W8).below.trans hc4.bl
           have HB4 := hide (HB8.out.trans (hbx.mono HB8.out.size))
           have HO4 := hide (HO8.out.up hbx)
           have HC4 := hide (hc4.r.from (a := w.heap.size) HB8.out.size)
           clear hbx hc4)
        | (refine step_appN rfl (.tmp 18) (.tmp 25) 41 rfl w.heap.size 51 i0 z0 4 48 Try.underlying41 hi0 hz0 hz2 hz3 hz1 (by decide) x3 (Z.take i).length _ rfl (HO4.out.up ((Below.refl _ _).alloc (Nat.le_refl _) _)).o (.slice (some ⟨w4.heap.size, 0, none⟩) 1 1) 1 (btc (p, v4)) rfl (litB (BxA.new _ _ _)) (btc_one HC4.out) (by rw [hti]; unfold maxLen; omega) (by rw [hti]; omega) (Nat.le_trans HB4.out.size ((Below.refl _ _).alloc (Nat.le_refl _) _).size) ?_
           intro v6 w6 o6 g6 p6
           rw [hti] at o6
           have hb5 : Below w4.heap.size w4 (w4.alloc (.cells #[.int .i64 p.num, .int .u64 (p.fr : Int), .int .u64 (p.up : Int), v4] 51)) := (Below.refl _ _).alloc (Nat.le_refl _) _
           have HO6 := hide ((HO4.out.up hb5).snoc (HC4.out.up hb5) g6 (by rw [hti]; exact o6))
           have HB5 := hide (HB4.out.trans (hb5.mono HB4.out.size))
           have HB6 : Hid (Below w.heap.size w w6) := hide (HB5.out.trans ⟨g6.os, g6.tape, g6.output, g6.size, fun q hq => g6.block q (Nat.lt_of_lt_of_le hq HB5.out.size) fun e => by have := (World.ownsRow.lt HO4.out.o q e.symm).1; omega⟩)
           clear o6 g6 p6 hb5))
      all_goals (
        go_wp2_with fail
        go_roundg (N - (i + 1))
        case measure => omega
        case rel => exact ⟨i + 1, v6, _, rfl, rfl, hlt, Nat.le_refl _, by rw [List.take_succ_eq_append_getElem hil, ← HP.out]; exact HO6, HB6⟩)
    · have hik : i = N := by omega
      subst hik
      have hltz : ¬ (i : Int) < (i : Int) := by omega
      have hall : Z.take i = Z := List.take_of_length_le (by rw [← HN.out]; exact Nat.le_refl _)
      rw [hall] at HO
      go_wp2_with fail
      go_ret
      exact ⟨_, rfl, ⟨Y, HO.out.fst, HO.out.o, HO.out.ch⟩, HBW.out⟩
end Go.Proofs.Ytmnlkmgpikilbaa
