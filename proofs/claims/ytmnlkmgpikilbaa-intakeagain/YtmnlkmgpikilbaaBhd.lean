/- released, Behind. -/
import Derived.Test.YtmnlkmgpikilbaaBeh
namespace Go.Proofs.Ytmnlkmgpikilbaa
open Go.RowKit Go.Maps Go.Sort
set_option linter.unusedVariables false

theorem kpcs_length (Z : List Kp) : (kpcs Z).length = Z.length * 5 := by
  unfold kpcs
  induction Z with
  | nil => rfl
  | cons p Z ih => rw [List.flatMap_cons, List.length_append, ih]; simp [kpc]; omega
theorem kpcs_get : ∀ (Z : List Kp) (i j : Nat) (h : i < Z.length) (hj : j < 5), (kpcs Z)[i * 5 + j]? = (kpc Z[i])[j]?
  | [], i, j, h, _ => by simp at h
  | p :: Z, 0, j, h, hj => by
    show ((kpc p) ++ kpcs Z)[0 * 5 + j]? = _
    rw [Nat.zero_mul, Nat.zero_add, List.getElem?_append_left (by simpa [kpc] using hj)]
    rfl
  | p :: Z, i + 1, j, h, hj => by
    show ((kpc p) ++ kpcs Z)[(i + 1) * 5 + j]? = _
    rw [List.getElem?_append_right (by simp [kpc]; omega), show (i + 1) * 5 + j - (kpc p).length = i * 5 + j by simp [kpc]; omega, kpcs_get Z i j (by simpa using h) hj]
    rfl
/-- A batch's cells in the row. -/
theorem kept_cells {w : World} {sv : Value} {Z : List Kp} (h : RowG w 0 80 5 sv Z.length (kpcs Z)) (i : Nat) (hi : i < Z.length) :
    ∃ g q c, sv = .slice (some ⟨g, q, none⟩) Z.length c ∧ Z.length ≤ c ∧ c ≤ maxLen ∧ w.cell? ⟨g, q + i * 5, none⟩ = some (.int .i64 Z[i].num) ∧ w.cell? ⟨g, q + i * 5 + 1, none⟩ = some (.int .u64 (Z[i].fr : Int)) ∧ w.cell? ⟨g, q + i * 5 + 2, none⟩ = some (.int .u64 (Z[i].up : Int)) ∧ w.cell? ⟨g, q + i * 5 + 3, none⟩ = some nl ∧ w.cell? ⟨g, q + i * 5 + 4, none⟩ = some Z[i].v := by
  obtain ⟨ao, cap, e, h0, h2, h3, h4, h5⟩ := h.rds
  rcases h.2 with ⟨_, q⟩ | ⟨g, q, c, cur, e', _⟩
  · omega
  · rw [e'] at e
    injection e with e1 e2 e3
    subst e3
    have hk := fun j hj => h5 _ e1.symm _ _ ((kpcs_get Z i j hi hj).trans (List.getElem?_eq_getElem (by simpa [kpc] using hj)))
    have k0 := hk 0 (by omega)
    have k1 := hk 1 (by omega)
    have k2 := hk 2 (by omega)
    have k3 := hk 3 (by omega)
    have k4 := hk 4 (by omega)
    rw [Addr.add_lit] at k0 k1 k2 k3 k4
    have l0 : w.cell? ⟨g, q + (i * 5 + 0), none⟩ = some (.int .i64 Z[i].num) := k0
    have l1 : w.cell? ⟨g, q + (i * 5 + 1), none⟩ = some (.int .u64 (Z[i].fr : Int)) := k1
    have l2 : w.cell? ⟨g, q + (i * 5 + 2), none⟩ = some (.int .u64 (Z[i].up : Int)) := k2
    have l3 : w.cell? ⟨g, q + (i * 5 + 3), none⟩ = some nl := k3
    have l4 : w.cell? ⟨g, q + (i * 5 + 4), none⟩ = some Z[i].v := k4
    exact ⟨g, q, _, e', h2, h3, l0, l1, l2, l3, l4⟩
/-- From where on facts are here. -/
def rls (Z : List Kp) (o : Kp) : Nat := match Z with | [] => o.fr | p :: _ => p.fr
set_option maxRecDepth 20000 in
theorem released_any (w : World) (x : Nat) (F : Nat → Prop) (l : Int) (sv : Value) (Z : List Kp) (o : Kp) (h : InZ w x F l sv Z o) : Calls Try.prog 39 #[.pointer (some ⟨x, 0, none⟩)] w fun e w' => e = .returned (.int .u64 ((rls Z o : Nat) : Int)) ∧ w' = w := by
  have c5 : w.cell? ⟨x, 5, none⟩ = some (.int .u64 (o.fr : Int)) := h.b.cell 5 _ rfl
  cases Z with
  | nil =>
    obtain ⟨a, c, hs⟩ := h.s.sl
    have c3 : w.cell? ⟨x, 3, none⟩ = some (.slice a 0 c) := by rw [show Value.slice a 0 c = sv from hs.symm]; exact h.b.cell 3 _ rfl
    obtain ⟨m, hm⟩ : ∃ m, m = o.fr := ⟨_, rfl⟩
    unfold rls
    simp only
    rw [← hm] at c5 ⊢
    clear h hs hm
    go_enter Try.func39, Try.ntmps39
    go_wp2_with fail
    go_ret
    exact ⟨rfl, rfl⟩
  | cons p Z =>
    obtain ⟨g, q, c, hs, hc, hcm, -, k1, -⟩ := kept_cells h.s 0 (by simp)
    have c3 : w.cell? ⟨x, 3, none⟩ = some (.slice (some ⟨g, q, none⟩) (p :: Z).length c) := by rw [← hs]; exact h.b.cell 3 _ rfl
    obtain ⟨N, hN⟩ : ∃ N, N = (p :: Z).length := ⟨_, rfl⟩
    have hN0 : 0 < N := by rw [hN]; simp
    rw [← hN] at c3 hc
    have hNz : (0 : Int) < (N : Int) := by omega
    have k1' : w.cell? ⟨g, q + 1, none⟩ = some (.int .u64 (p.fr : Int)) := by simpa using k1
    unfold rls
    simp only
    clear h hs hN k1 c5
    go_enter Try.func39, Try.ntmps39
    go_wp2_with fail
    go_ret
    exact ⟨rfl, rfl⟩
theorem fcs_one (l : List Int) : ∀ u ∈ fcs l, u.oneCell' = true := by
  intro u hu
  unfold fcs at hu
  rw [List.mem_flatMap] at hu
  obtain ⟨t, _, ht⟩ := hu
  simp only [List.mem_cons, List.not_mem_nil, or_false] at ht
  rcases ht with rfl | rfl | rfl <;> rfl
/-- The sealed facts behind an offset. -/
def bh (Z : List Kp) (off : Nat) : List Int := Z.flatMap fun p => p.ts.drop (ahd p off)
theorem bh_snoc (Z : List Kp) (p : Kp) (off : Nat) : bh (Z ++ [p]) off = bh Z off ++ p.ts.drop (ahd p off) := by simp [bh]
set_option maxRecDepth 20000 in
set_option maxHeartbeats 4000000 in
theorem behindI_any (w : World) (x : Nat) (F : Nat → Prop) (l : Int) (sv : Value) (Z : List Kp) (o : Kp) (h : InZ w x F l sv Z o) (hl : 1 ≤ l) (off : Nat) (hlo : rls Z o ≤ off) (hhi : off ≤ o.up) (hup : o.up ≤ 100000) (hZ : Z.length ≤ 100000) (hbs : ∀ p ∈ Z, p.up ≤ 100000) (hsum : ∀ i, (bh (Z.take i) off).length ≤ 100000) :
    Calls Try.prog 21 #[.pointer (some ⟨x, 0, none⟩), .int .u64 (off : Int)] w fun e w' => ∃ v, e = .returned (.tuple #[v, .int .u64 (o.up : Int), .int .i64 0]) ∧ w'.ownsRow w.heap.size 38 3 v (bh Z off ++ o.ts.drop (ahd o off)).length (fcs (bh Z off ++ o.ts.drop (ahd o off))) ∧ Below w.heap.size w w' := by
  have kM := made_any _ x F l sv Z o h hl
  have kR := released_any _ x F l sv Z o h
  obtain ⟨i0, z0, hi0, hz0, hz1, hz2, hz3⟩ := info_partsI Try.info_fctI
  obtain ⟨sa, sc, hs⟩ := h.s.sl
  obtain ⟨va, vc, hv⟩ := own_sl h.eo.o
  obtain ⟨N, hN⟩ : ∃ N, N = Z.length := ⟨_, rfl⟩
  obtain ⟨n, hn⟩ : ∃ n, n = o.ts.length := ⟨_, rfl⟩
  obtain ⟨u0, hu0⟩ : ∃ u, u = o.up := ⟨_, rfl⟩
  obtain ⟨f0, hf0⟩ : ∃ f, f = o.fr := ⟨_, rfl⟩
  obtain ⟨r0, hr0⟩ : ∃ r, r = rls Z o := ⟨_, rfl⟩
  have hrg := h.eo.rg
  have hn1 : n ≤ 100000 := by omega
  rw [← hr0] at kR hlo
  rw [← hN] at hs
  rw [← hn] at hv
  have hz : ¬ (off : Int) < (r0 : Int) := by omega
  have hz2' : ¬ (u0 : Int) < (off : Int) := by omega
  have c3 : w.cell? ⟨x, 3, none⟩ = some (.slice sa N sc) := by rw [← hs]; exact h.b.cell 3 _ rfl
  have c6 : w.cell? ⟨x, 6, none⟩ = some (.int .u64 (u0 : Int)) := by rw [hu0]; exact h.b.cell 6 _ rfl
  have hN1 : N ≤ 100000 := by omega
  have hoff : off ≤ 100000 := by omega
  have H := hide h
  have HS := hide hs
  have HV := hide hv
  have HN := hide hN
  have HNN := hide hn
  have HU := hide hu0
  have HBS := hide hbs
  have HSUM := hide hsum
  have HUP := hide hup
  clear h hs hv hN hn hf0 hrg hr0 hbs hsum hZ hlo hhi
  rw [← hu0]
  clear hu0 hup
  go_enter Try.func21, Try.ntmps21
  go_upto_region 9 with (first
    | (go_at_call 33; refine kM.mono ?_; rintro e w1 ⟨he1, hw1⟩; have hw1 := hw1.symm; subst he1; subst hw1)
    | (go_at_call 39; refine kR.mono ?_; rintro e w1 ⟨he1, hw1⟩; have hw1 := hw1.symm; subst he1; subst hw1))
  rename (¬ off < r0) => q1
  rename (¬ u0 < off) => q2
  clear c3 c6 kM kR q1 q2 hz hz2'
  go_loopg [7, 33] N (fun kx v7 v33 wr => ∃ (i : Nat) (x7 : Value), x7 = v7 ∧ v33 = .int .i64 (i : Int) ∧ i ≤ N ∧ N - i ≤ kx ∧ Hid (wr.ownsRow w.heap.size 38 3 x7 (bh (Z.take i) off).length (fcs (bh (Z.take i) off))) ∧ Hid (Below w.heap.size w wr))
  case atStart => exact ⟨0, _, rfl, rfl, Nat.zero_le _, Nat.le_refl _, ⟨rfl, .inl ⟨rfl, rfl⟩⟩, Below.refl _ _⟩
  case round =>
    obtain ⟨i, x7, hx7, rfl, hi, hkx, HO, HBW⟩ := hrel
    subst hx7
    by_cases hlt : i < N
    · have hltz : (i : Int) < (N : Int) := by omega
      have hil : i < Z.length := by rw [← HN.out]; exact hlt
      obtain ⟨g, q, c, hsv, hc1, hc2, k0, k1, k2, k3, k4⟩ := kept_cells H.out.s i hil
      rw [HS.out] at hsv
      injection hsv with e1 e2 e3
      subst e1
      subst e3
      clear e2
      rw [← HN.out] at hc1
      obtain ⟨p, hp⟩ : ∃ p, p = Z[i] := ⟨_, rfl⟩
      rw [← hp] at k0 k1 k2 k4
      have hpm : p ∈ Z := by rw [hp]; exact List.getElem_mem hil
      obtain ⟨pa, pc, hpv⟩ := own_sl (H.out.e p hpm).o
      rw [hpv] at k4
      have m0 := cell_upB HBW.out k0
      have m1 := cell_upB HBW.out k1
      have m2 := cell_upB HBW.out k2
      have m3 := cell_upB HBW.out k3
      have m4 := cell_upB HBW.out k4
      have HP := hide hp
      have HPM := hide hpm
      have HPV := hide hpv
      obtain ⟨pn, hpn⟩ : ∃ pn, pn = p.ts.length := ⟨_, rfl⟩
      rw [← hpn] at m4 HPV
      have HPN := hide hpn
      clear k0 k1 k2 k3 k4 hp hpm hpv hpn
      have hpf : p.up ≤ 100000 := HBS.out p HPM.out
      have hp2 : (p.ts.drop (ahd p off)).length ≤ 100000 := by have := (H.out.e p HPM.out).rg; rw [List.length_drop]; omega
      have hb2 := HSUM.out i
      go_upto_region 11 with fail
      have hX8 : BxA (wr.alloc (.cells #[.int .i64 p.num, .int .u64 (p.fr : Int), .int .u64 (p.up : Int), nl, .slice pa pn pc] 80)) wr.heap.size 80 #[.int .i64 p.num, .int .u64 (p.fr : Int), .int .u64 (p.up : Int), nl, .slice pa pn pc] := BxA.new _ _ _
      have hb8 : Below wr.heap.size wr (wr.alloc (.cells #[.int .i64 p.num, .int .u64 (p.fr : Int), .int .u64 (p.up : Int), nl, .slice pa pn pc] 80)) := (Below.refl _ _).alloc (Nat.le_refl _) _
      have HB8 := hide (HBW.out.trans (hb8.mono HBW.out.size))
      have HO8 := hide (own_blk HO.out fun r hr => hb8.block r (World.ownsRow.lt HO.out r hr).2)
      generalize hW8 : wr.alloc (.cells #[.int .i64 p.num, .int .u64 (p.fr : Int), .int .u64 (p.up : Int), nl, .slice pa pn pc] 80) = W8 at *
      generalize wr.heap.size = g8 at *
      have t0 : W8.cell? ⟨g8, 0, none⟩ = some (.int .i64 p.num) := hX8.cell 0 _ rfl
      have t1 : W8.cell? ⟨g8, 1, none⟩ = some (.int .u64 (p.fr : Int)) := hX8.cell 1 _ rfl
      have t2 : W8.cell? ⟨g8, 2, none⟩ = some (.int .u64 (p.up : Int)) := hX8.cell 2 _ rfl
      have t3 : W8.cell? ⟨g8, 3, none⟩ = some nl := hX8.cell 3 _ rfl
      have t4 : W8.cell? ⟨g8, 4, none⟩ = some (.slice pa pn pc) := hX8.cell 4 _ rfl
      have kB := behind_any W8 F p ((H.out.e p HPM.out).frame fun r hr => HB8.out.block r (World.ownsRow.lt (H.out.e p HPM.out).o r hr).2) off hpf (by omega)
      rw [show kpa p = #[.int .i64 p.num, .int .u64 (p.fr : Int), .int .u64 (p.up : Int), nl, .slice pa pn pc] by unfold kpa; rw [HPV.out]] at kB
      clear hW8 hb8 hX8 m0 m1 m2 m3 m4
      go_wp2_with (first
        | (go_at_call 40
           refine kB.mono ?_
           rintro e w4 ⟨v4, he4, ho4, hb4⟩
           subst he4
           have HB4 := hide (HB8.out.trans (hb4.mono HB8.out.size))
           have HO4 := hide (own_blk HO8.out fun r hr => hb4.block r (World.ownsRow.lt HO8.out r hr).2)
           have HR4 := hide (RdsK.of_own ho4)
           clear ho4 hb4 kB)
        | (at_builtin
           refine wpList_appF rfl _ _ 43 rfl w.heap.size 38 i0 z0 3 56 Try.underlying43 hi0 hz0 hz2 hz3 hz1 (by decide) x7 (bh (Z.take i) off).length _ rfl HO4.out v4 (p.ts.drop (ahd p off)).length _ rfl HR4.out (fcs_one _) (by unfold maxLen; omega) (by omega) HB4.out.size ?_
           intro v6 w6 o6 g6 p6
           have HO6 := hide o6
           have HB6 : Hid (Below w.heap.size w w6) := hide (HB4.out.trans ⟨g6.os, g6.tape, g6.output, g6.size, fun q hq => g6.block q (Nat.lt_of_lt_of_le hq HB4.out.size) fun e => by have := (World.ownsRow.lt HO4.out q e.symm).1; omega⟩)
           clear o6 g6 p6))
      go_roundg (N - (i + 1))
      case measure => omega
      case rel => exact ⟨i + 1, v6, rfl, rfl, hlt, Nat.le_refl _, by rw [List.take_succ_eq_append_getElem hil, ← HP.out, bh_snoc, List.length_append, fcs_append]; exact HO6, HB6⟩
    · have hik : i = N := by omega
      subst hik
      have hltz : ¬ (i : Int) < (i : Int) := by omega
      have HZW := hide (H.out.up HBW.out)
      have c4 : wr.cell? ⟨x, 4, none⟩ = some (.int .i64 o.num) := HZW.out.b.cell 4 _ rfl
      have c5 : wr.cell? ⟨x, 5, none⟩ = some (.int .u64 (o.fr : Int)) := HZW.out.b.cell 5 _ rfl
      have c6 : wr.cell? ⟨x, 6, none⟩ = some (.int .u64 (u0 : Int)) := by rw [HU.out]; exact HZW.out.b.cell 6 _ rfl
      have c7 : wr.cell? ⟨x, 7, none⟩ = some nl := HZW.out.b.cell 7 _ rfl
      have c8 : wr.cell? ⟨x, 8, none⟩ = some (.slice va n vc) := by rw [← HV.out]; exact HZW.out.b.cell 8 _ rfl
      have hall : Z.take i = Z := List.take_of_length_le (by rw [← HN.out]; exact Nat.le_refl _)
      have hb2 := HSUM.out i
      rw [hall] at hb2
      have HO' : Hid (wr.ownsRow w.heap.size 38 3 x7 (bh Z off).length (fcs (bh Z off))) := by have := HO.out; rw [hall] at this; exact hide this
      have hp2 : (o.ts.drop (ahd o off)).length ≤ 100000 := by rw [List.length_drop, ← HNN.out]; omega
      have kB := fun W (hW : ∀ r : Nat, W.heap[r]? = wr.heap[r]?) => behind_any W F o (HZW.out.eo.frame fun r _ => hW r) off HUP.out (by omega)
      rw [show kpa o = #[.int .i64 o.num, .int .u64 (o.fr : Int), .int .u64 (u0 : Int), nl, .slice va n vc] by unfold kpa; rw [HV.out, HU.out]] at kB
      clear hall
      go_upto_region 13 with fail
      go_region_law (first
        | (go_simp
           go_at_call 40
           refine (kB wr.drew (fun r => rfl)).mono ?_
           rintro e w4 ⟨v4, he4, ho4, hb4⟩
           subst he4
           have hbx := (Grows.drew wr).below.trans hb4
           have HB4 := hide (HBW.out.trans (hbx.mono HBW.out.size))
           have HO4 := hide (own_blk HO'.out fun r hr => hbx.block r (World.ownsRow.lt HO'.out r hr).2)
           have HR4 := hide (RdsK.of_own ho4)
           have c6' : w4.cell? ⟨x, 6, none⟩ = some (.int .u64 (u0 : Int)) := cell_upB hbx c6
           clear ho4 hb4 hbx)
        | (refine step_appN rfl (.tmp 43) (.tmp 49) 43 rfl w.heap.size 38 i0 z0 3 56 Try.underlying43 hi0 hz0 hz2 hz3 hz1 (by decide) x7 (bh Z off).length _ rfl HO4.out v4 (o.ts.drop (ahd o off)).length _ rfl HR4.out (fcs_one _) (by unfold maxLen; omega) (by omega) HB4.out.size ?_
           intro v6 w6 o6 g6 p6
           have HO6 := hide o6
           have hb6 : Below w.heap.size w w6 := HB4.out.trans ⟨g6.os, g6.tape, g6.output, g6.size, fun q hq => g6.block q (Nat.lt_of_lt_of_le hq HB4.out.size) fun e => by have := (World.ownsRow.lt HO4.out q e.symm).1; omega⟩
           have HB6 := hide hb6
           have c6'' : w6.cell? ⟨x, 6, none⟩ = some (.int .u64 (u0 : Int)) := by rw [HU.out]; exact cell_upB hb6 (H.out.b.cell 6 _ rfl)
           clear o6 g6 p6 hb6))
      all_goals (
        go_wp2_with fail
        have hr := HO6.out
        rw [← fcs_append, List.length_drop] at hr
        exact bodyPost_ret (results_tmp3 rfl _ _ _) rfl ⟨v6, rfl, hr, HB6.out⟩)
end Go.Proofs.Ytmnlkmgpikilbaa
