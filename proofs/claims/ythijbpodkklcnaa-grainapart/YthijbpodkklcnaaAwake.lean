/- The contract of awake: it answers true. -/
import Derived.Test.YthijbpodkklcnaaMin
import Derived.Test.YthijbpodkklcnaaSpl2
namespace Go.Proofs.Ythijbpodkklcnaa
open Go.RowKit Go.Sort

theorem two_rds (w : World) (x y : Sp) (B : Nat) (hB : B = w.heap.size) : RdP (w.alloc (.cells #[.int .i64 x.1, .int .i64 x.2, .int .i64 y.1, .int .i64 y.2] 23)) (.slice (some ⟨B, 0, none⟩) 2 2) [x, y] := by
  subst hB
  refine ⟨some ⟨w.heap.size, 0, none⟩, 2, rfl, by simp [pv, pc], Nat.le_refl _, by decide, (fun h => by cases h), ?_⟩
  rintro ad ⟨rfl⟩ j u hj
  rw [Addr.add_lit, Nat.zero_add]
  have hj4 : j < 4 := by
    have := (List.getElem?_eq_some_iff.1 hj).1
    simpa [pv, pc] using this
  have : j = 0 ∨ j = 1 ∨ j = 2 ∨ j = 3 := by omega
  rcases this with rfl | rfl | rfl | rfl <;> simpa [pv, pc] using hj
theorem split_awake : splitE (3, 12) 5 = some [(3, 5), (5, 10), (10, 12)] := by decide +kernel
theorem bck_7 : bck 7 5 = 5 := by decide
theorem bck_m1 : bck (-1) 5 = -5 := by decide
theorem minus_awake {r : List Sp} (h : Norm r) (ha : ∀ t, any r t = (hol (0, 10) t && !any [(2, 3), (9, 20)] t)) : r = [(0, 2), (3, 9)] := by
  refine norm_unique r _ h ⟨by simp, by simp⟩ fun t => ?_
  rw [ha, Bool.eq_iff_iff]
  simp only [any, hol, List.any_cons, List.any_nil, Bool.or_false, Bool.and_eq_true, decide_eq_true_eq, Bool.not_eq_true', Bool.or_eq_false_iff, Bool.or_eq_true, Bool.and_eq_false_iff, decide_eq_false_iff_not]
  omega
/-- The cells of a row of spans, at one place. -/
theorem RdP.cell {w : World} {ao : Option Addr} {n cap : Nat} {l : List Sp} (h : RdP w (.slice ao n cap) l) (hp : 0 < l.length) : ∃ b off, ao = some ⟨b, off, none⟩ ∧ ∀ i (x : Sp), l[i]? = some x → w.cell? ⟨b, off + i * 2, none⟩ = some (.int .i64 x.1) ∧ w.cell? ⟨b, off + i * 2 + 1, none⟩ = some (.int .i64 x.2) := by
  obtain ⟨-, -, -, hk⟩ := h.at
  obtain ⟨b, off, rfl, hc⟩ := hk hp
  refine ⟨b, off, rfl, fun i x hx => ?_⟩
  obtain ⟨hi, rfl⟩ := List.getElem?_eq_some_iff.1 hx
  exact hc i hi

set_option maxHeartbeats 2000000 in
theorem awake_any (w : World) : Calls Try.prog 10 #[] w fun e w' => e = .returned (.bool true) ∧ Below w.heap.size w w' := by
  have kS := split_any w (3, 12) 5 (by unfold In64; simp) (by unfold In64; simp) (by unfold In64; simp)
  rw [split_awake] at kS
  have kS : Calls Try.prog 22 #[.agg #[.int .i64 3, .int .i64 12], .int .i64 5] w fun e w' => ∃ v', e = .returned (.tuple #[v', .int .i64 0]) ∧ OwP w' w.heap.size v' [(3, 5), (5, 10), (10, 12)] ∧ Below w.heap.size w w' := kS
  have kB1 := fun W => bucket_any W 7 5 (by unfold In64; simp) (by unfold In64; simp)
  rw [bck_7] at kB1
  have kB2 := fun W => bucket_any W (-1) 5 (by unfold In64; simp) (by unfold In64; simp)
  rw [bck_m1] at kB2
  go_enter Try.func10, Try.ntmps10
  go_wp2_with fail
  refine kS.mono ?_
  rintro e w1 ⟨v1, rfl, o1, b1⟩
  obtain ⟨a1, n1, c1, hv1⟩ := own_sl o1
  subst hv1
  have r1 := o1.rd
  obtain ⟨hn1, hc1, hm1, -⟩ := r1.at
  have hn1' : n1 = 3 := hn1
  subst hn1'
  obtain ⟨B1, f1, rfl, hcl1⟩ := r1.cell (by decide)
  obtain ⟨q0, q1⟩ := hcl1 1 (5, 10) rfl
  have kM := minus_any (w1.alloc (.cells #[.int .i64 2, .int .i64 3, .int .i64 9, .int .i64 20] 23)) (0, 10) _ _ (two_rds w1 (2, 3) (9, 20) _ rfl) (by simp)
  simp only at kM q0 q1
  have HQ : Hid _ := And.intro q0 q1
  have HB1 : Hid _ := b1
  have HBA : Hid (Below w1.heap.size w1 (w1.alloc (.cells #[.int .i64 2, .int .i64 3, .int .i64 9, .int .i64 20] 23))) := (Below.refl _ _).alloc (Nat.le_refl _) _
  have hlt : B1 < w1.heap.size := World.block_lt_of_cell? _ _ q0
  clear o1 r1 hcl1 kS b1 q0 q1 hn1
  go_wp2_with fail
  refine kM.mono ?_
  rintro e w2 ⟨v2, rfl, r, o2, hN, hA, -, b2⟩
  have hr := minus_awake hN hA
  subst hr
  obtain ⟨a2, n2, c2, hv2⟩ := own_sl o2
  subst hv2
  have r2 := o2.rd
  obtain ⟨hn2, hc2, hm2, -⟩ := r2.at
  have hn2' : n2 = 2 := hn2
  subst hn2'
  obtain ⟨B2, f2, rfl, hcl2⟩ := r2.cell (by decide)
  obtain ⟨p0, p1⟩ := hcl2 1 (3, 9) rfl
  have b12 := HBA.out.trans (b2.mono HBA.out.size)
  have q0 : w2.cell? ⟨B1, f1 + 1 * 2, none⟩ = some (.int .i64 5) := by rw [b12.cell hlt]; exact HQ.out.1
  have q1 : w2.cell? ⟨B1, f1 + 1 * 2 + 1, none⟩ = some (.int .i64 10) := by rw [b12.cell hlt]; exact HQ.out.2
  have HB2 : Hid (Below w.heap.size w w2) := HB1.out.trans (b12.mono HB1.out.size)
  simp only at p0 p1
  unfold maxLen at *
  clear o2 r2 hcl2 kM b2 b12 hN hA hn2 HBA HB1 HQ
  go_wp2_with fail
  refine (kB1 _).mono ?_
  rintro e w' ⟨rfl, rfl⟩
  go_wp2_with fail
  refine (kB2 _).mono ?_
  rintro e w' ⟨rfl, rfl⟩
  have q0' : w'.cell? ⟨B1, f1 + 2, none⟩ = some (.int .i64 5) := q0
  have q1' : w'.cell? ⟨B1, f1 + 2 + 1, none⟩ = some (.int .i64 10) := q1
  have p0' : w'.cell? ⟨B2, f2 + 2, none⟩ = some (.int .i64 3) := p0
  have p1' : w'.cell? ⟨B2, f2 + 2 + 1, none⟩ = some (.int .i64 9) := p1
  clear q0 q1 p0 p1 kB1 kB2
  go_wp2_with fail
  go_ret
  exact ⟨rfl, HB2.out⟩
end Go.Proofs.Ythijbpodkklcnaa
