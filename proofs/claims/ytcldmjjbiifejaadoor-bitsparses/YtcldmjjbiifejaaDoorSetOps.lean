/- Contracts of New, And, Or, Not over sets. -/
import Derived.Test.YtcldmjjbiifejaaDoorSetFns
namespace Go.Proofs.YtcldmjjbiifejaaDoor
open Go.RowKit

theorem new1_any (w : World) (i : Int) : Calls Tryd.prog 41 #[.int .i64 i] w fun e w'' => e = .returned (.int .u64 ((0 : Nat) : Int)) ∧ ∃ d, w'' = w.drewN d := by
  go_enter Tryd.func41, Tryd.ntmps41
  go_wp2
  go_ret
  exact ⟨by simp, 0, rfl⟩

theorem new_any (w : World) (n : Nat) (hn : n ≤ 1048576) :
    Calls Tryd.prog 17 #[.int .i64 n] w fun e w' => ∃ p B g, e = .returned (.tuple #[p, .int .i64 0]) ∧ ISet w' w.heap.size p n 0 B g ∧ Below w.heap.size w w' := by
  have e : (decide (0 ≤ (n : Int)) && decide ((n : Int) ≤ 1048576)) = true := by simp; omega
  go_enter Tryd.func17, Tryd.ntmps17
  go_wp2_with fail
  refine (isRows_any w n (by omega)).mono ?_
  rintro e1 w1 ⟨rfl, rfl⟩
  rw [e]
  go_wp2_with fail
  refine (made_new w1 n (fun _ => 0) hn (fun _ => by decide) (fun w' _ i _ => new1_any w' i)).mono ?_
  rintro e1 w2 ⟨p, B, g, rfl, hs, hb⟩
  rw [told_zero] at hs
  go_wp2
  go_ret2
  exact ⟨_, _, _, rfl, hs, hb⟩

theorem alike_any (w : World) (base base' n n' X Y B g B' g' : Nat) (p q : Value) (h : ISet w base p n X B g) (h' : ISet w base' q n' Y B' g') :
    Calls Tryd.prog 27 #[p, q] w fun e w' => e = .returned (.bool (decide (n = n'))) ∧ ∃ d, w' = w.drewN d := by
  obtain ⟨rfl, _, _, hc0, _, _, _, hn⟩ := h
  obtain ⟨rfl, _, _, hc0', _, _, _, hn'⟩ := h'
  by_cases he : n = n'
  · subst he
    go_enter Tryd.func27, Tryd.ntmps27
    go_wp2_with fail
    go_quiet (fail)
    go_wp2
    go_ret
    exact ⟨by simp, _, rfl⟩
  · have he' : ¬ (n : Int) = (n' : Int) := by omega
    go_enter Tryd.func27, Tryd.ntmps27
    go_wp2_with fail
    go_quiet (fail)
    go_wp2
    go_ret
    exact ⟨by simp [he, he'], _, rfl⟩

theorem xor_max (x : Nat) (h : x < 18446744073709551616) : bits .xor .u64 IntKind.u64.max (x : Int) = ((2 ^ 64 - (x + 1) : Nat) : Int) := by
  have e : IntKind.u64.max = ((18446744073709551615 : Nat) : Int) := rfl
  rw [e, u64_xor_nat _ _ (by decide) h]
  congr 1
  apply Nat.eq_of_testBit_eq
  intro j
  rw [Nat.testBit_xor, Nat.testBit_two_pow_sub_succ h, show (18446744073709551615 : Nat) = 2 ^ 64 - 1 from rfl, Nat.testBit_two_pow_sub_one]
  by_cases hj : j < 64
  · simp [hj]
  · have : x.testBit j = false := Nat.testBit_lt_two_pow (Nat.lt_of_lt_of_le h (Nat.pow_le_pow_right (n := 2) (by decide) (show 64 ≤ j by omega)))
    simp [hj, this]
theorem not1_any (w : World) (base n X B g b1 i : Nat) (p : Value) (h : ISet w base p n X B g) (hb1 : w.cell? ⟨b1, 0, none⟩ = some p) (hi : i < wn n) :
    Calls Tryd.prog 31 #[.int .i64 i, .pointer (some ⟨b1, 0, none⟩)] w fun e w'' => e = .returned (.int .u64 ((2 ^ 64 - (wd X i + 1) : Nat) : Int)) ∧ ∃ d, w'' = w.drewN d := by
  have hw := h.word i hi
  have hl := wd_lt X i
  obtain ⟨x, hx⟩ : ∃ x, x = wd X i := ⟨_, rfl⟩
  rw [← hx] at hw hl ⊢
  have hxl : x ≤ 18446744073709551615 := by omega
  have hxm := xor_max x (by omega)
  obtain ⟨z, hz⟩ : ∃ z : Nat, z = 2 ^ 64 - (x + 1) := ⟨_, rfl⟩
  rw [← hz] at hxm ⊢
  obtain ⟨rfl, _, _, _, hc1, _, _, hn⟩ := h
  obtain ⟨m, hm⟩ : ∃ m, m = wn n := ⟨_, rfl⟩
  have hml : m ≤ 16384 := by rw [hm]; unfold wn; omega
  rw [← hm] at hc1 hi
  have him : (i : Int) < (m : Int) := by omega
  clear hm hx hz
  go_enter Tryd.func31, Tryd.ntmps31
  go_wp2
  go_ret
  exact ⟨by simp, 0, rfl⟩

theorem and1_any (w : World) (base base' n X Y B g B' g' b1 b2 i : Nat) (p q : Value) (h : ISet w base p n X B g) (h' : ISet w base' q n Y B' g') (hb1 : w.cell? ⟨b1, 0, none⟩ = some p) (hb2 : w.cell? ⟨b2, 0, none⟩ = some q) (hi : i < wn n) :
    Calls Tryd.prog 29 #[.int .i64 i, .pointer (some ⟨b1, 0, none⟩), .pointer (some ⟨b2, 0, none⟩)] w fun e w'' => e = .returned (.int .u64 ((wd X i &&& wd Y i : Nat) : Int)) ∧ ∃ d, w'' = w.drewN d := by
  have hw := h.word i hi
  have hw' := h'.word i hi
  have hbb := u64_and_nat _ _ (wd_lt X i) (wd_lt Y i)
  obtain ⟨x, hx⟩ : ∃ x, x = wd X i := ⟨_, rfl⟩
  obtain ⟨y, hy⟩ : ∃ y, y = wd Y i := ⟨_, rfl⟩
  rw [← hx] at hw hbb ⊢
  rw [← hy] at hw' hbb ⊢
  obtain ⟨z, hz⟩ : ∃ z, z = x &&& y := ⟨_, rfl⟩
  rw [← hz] at hbb ⊢
  obtain ⟨rfl, _, _, _, hc1, _, _, hn⟩ := h
  obtain ⟨rfl, _, _, _, hc1', _, _, _⟩ := h'
  obtain ⟨m, hm⟩ : ∃ m, m = wn n := ⟨_, rfl⟩
  have hml : m ≤ 16384 := by rw [hm]; unfold wn; omega
  rw [← hm] at hc1 hc1' hi
  have him : (i : Int) < (m : Int) := by omega
  clear hm hx hy hz
  go_enter Tryd.func29, Tryd.ntmps29
  go_wp2_with fail
  go_region
  all_goals
    go_wp2
    go_ret
    exact ⟨by simp, _, rfl⟩
theorem or1_any (w : World) (base base' n X Y B g B' g' b1 b2 i : Nat) (p q : Value) (h : ISet w base p n X B g) (h' : ISet w base' q n Y B' g') (hb1 : w.cell? ⟨b1, 0, none⟩ = some p) (hb2 : w.cell? ⟨b2, 0, none⟩ = some q) (hi : i < wn n) :
    Calls Tryd.prog 30 #[.int .i64 i, .pointer (some ⟨b1, 0, none⟩), .pointer (some ⟨b2, 0, none⟩)] w fun e w'' => e = .returned (.int .u64 ((wd X i ||| wd Y i : Nat) : Int)) ∧ ∃ d, w'' = w.drewN d := by
  have hw := h.word i hi
  have hw' := h'.word i hi
  have hbb := u64_or_nat _ _ (wd_lt X i) (wd_lt Y i)
  obtain ⟨x, hx⟩ : ∃ x, x = wd X i := ⟨_, rfl⟩
  obtain ⟨y, hy⟩ : ∃ y, y = wd Y i := ⟨_, rfl⟩
  rw [← hx] at hw hbb ⊢
  rw [← hy] at hw' hbb ⊢
  obtain ⟨z, hz⟩ : ∃ z, z = x ||| y := ⟨_, rfl⟩
  rw [← hz] at hbb ⊢
  obtain ⟨rfl, _, _, _, hc1, _, _, hn⟩ := h
  obtain ⟨rfl, _, _, _, hc1', _, _, _⟩ := h'
  obtain ⟨m, hm⟩ : ∃ m, m = wn n := ⟨_, rfl⟩
  have hml : m ≤ 16384 := by rw [hm]; unfold wn; omega
  rw [← hm] at hc1 hc1' hi
  have him : (i : Int) < (m : Int) := by omega
  clear hm hx hy hz
  go_enter Tryd.func30, Tryd.ntmps30
  go_wp2_with fail
  go_region
  all_goals
    go_wp2
    go_ret
    exact ⟨by simp, _, rfl⟩

theorem own_mono {w : World} {base base' e n : Nat} {v : Value} {xs : List Value} (h : w.ownsRow base e 1 v n xs) (hb : base' ≤ base) : w.ownsRow base' e 1 v n xs := by
  refine ⟨h.1, ?_⟩
  rcases h.2 with h2 | ⟨g, cap, cur, h1, h2, h3⟩
  · exact .inl h2
  · exact .inr ⟨g, cap, cur, h1, by omega, h3⟩
theorem below_mono {B B' : Nat} {a w : World} (h : Below B a w) (hb : B' ≤ B) : Below B' a w := ⟨h.os, h.tape, h.output, h.size, fun k hk => h.block k (by omega)⟩
theorem ISet.mono {w : World} {base base' n X B g : Nat} {p : Value} (h : ISet w base p n X B g) (hb : base' ≤ base) : ISet w base' p n X B g :=
  ⟨h.ptr, by have := h.ge; omega, h.ne, h.rows, h.words, own_mono h.own hb, h.lt, h.le⟩

set_option maxHeartbeats 400000 in
theorem and_any (w : World) (base base' n X Y B g B' g' : Nat) (p q : Value) (h : ISet w base p n X B g) (h' : ISet w base' q n Y B' g') :
    Calls Tryd.prog 10 #[p, q] w fun e w' => ∃ p' B g, e = .returned (.tuple #[p', .int .i64 0]) ∧ ISet w' w.heap.size p' n (X &&& Y) B g ∧ Below w.heap.size w w' := by
  have hn := h.le
  have hlX := h.lt
  have hlY := h'.lt
  have hp1 := h.ptr
  have hp2 := h'.ptr
  subst hp1 hp2
  obtain ⟨w1, hw1⟩ : ∃ w1, w1 = (w.alloc (.cells #[.pointer (some ⟨B, 0, none⟩)] 25)).alloc (.cells #[.pointer (some ⟨B', 0, none⟩)] 25) := ⟨_, rfl⟩
  have hbA : Below w.heap.size w w1 := by rw [hw1]; exact ((Below.refl _ _).alloc (Nat.le_refl _) _).alloc (by simp) _
  have hsA := h.below hbA
  have htA := h'.below hbA
  have hal := alike_any w1 base base' n n X Y B g B' g' _ _ hsA htA
  have hc1 : w1.cell? ⟨w.heap.size, 0, none⟩ = some (.pointer (some ⟨B, 0, none⟩)) := by
    rw [hw1, World.cell?_alloc_past _ _ _ (by simp), World.cell?_alloc_at _ _ _ _ rfl]; rfl
  have hc2 : w1.cell? ⟨w.heap.size + 1, 0, none⟩ = some (.pointer (some ⟨B', 0, none⟩)) := by
    rw [hw1, World.cell?_alloc_at _ _ _ _ (by simp)]; rfl
  have hsz : w1.heap.size = w.heap.size + 2 := by rw [hw1]; simp
  simp only [decide_true] at hal
  have hrows := hsA.rows
  have HW := hide hw1
  have HSZ := hide hsz
  go_enter Tryd.func10, Tryd.ntmps10
  go_wp2_with fail
  rw [← hw1]
  clear hw1 hsz
  refine hal.mono ?_
  rintro e1 w2 ⟨rfl, d, hd⟩
  have hbB : Below w.heap.size w w2 := by rw [hd]; exact below_drewN hbA d
  have hb12 : Below w1.heap.size w1 w2 := by rw [hd]; exact below_drewN (Below.refl _ _) d
  have hrows2 : w2.cell? ⟨B, 0, none⟩ = some (.int .i64 (n : Int)) := by rw [hd]; exact hrows
  have hcc1 : w2.cell? ⟨w.heap.size, 0, none⟩ = some (.pointer (some ⟨B, 0, none⟩)) := by rw [hd]; exact hc1
  have hcc2 : w2.cell? ⟨w.heap.size + 1, 0, none⟩ = some (.pointer (some ⟨B', 0, none⟩)) := by rw [hd]; exact hc2
  have hss := hsA.below hb12
  have htt := htA.below hb12
  clear hd hal hbA hsA htA hc1 hc2 hrows hb12
  go_wp2_with fail
  refine (made_and w2 n _ _ (fun i => wd X i &&& wd Y i) hn (fun i => Nat.and_lt_two_pow _ (wd_lt Y i)) (fun w' hb i hi => and1_any w' base base' n X Y B g B' g' w.heap.size (w.heap.size + 1) i _ _ (hss.below hb) (htt.below hb) (by rw [hb.cell (World.block_lt_of_cell? _ _ hcc1)]; exact hcc1) (by rw [hb.cell (World.block_lt_of_cell? _ _ hcc2)]; exact hcc2) hi)).mono ?_
  rintro e1 w3 ⟨p', B3, g3, rfl, hs3, hb3⟩
  rw [told_and hlX] at hs3
  go_wp2
  go_ret2
  have hs2 := hbB.size
  exact ⟨_, _, _, rfl, ⟨hs3.ptr, by have := hs3.ge; omega, hs3.ne, hs3.rows, hs3.words, own_mono hs3.own hs2, hs3.lt, hs3.le⟩, hbB.trans (below_mono hb3 hs2)⟩
set_option maxHeartbeats 400000 in
theorem or_any (w : World) (base base' n X Y B g B' g' : Nat) (p q : Value) (h : ISet w base p n X B g) (h' : ISet w base' q n Y B' g') :
    Calls Tryd.prog 11 #[p, q] w fun e w' => ∃ p' B g, e = .returned (.tuple #[p', .int .i64 0]) ∧ ISet w' w.heap.size p' n (X ||| Y) B g ∧ Below w.heap.size w w' := by
  have hn := h.le
  have hlX := h.lt
  have hlY := h'.lt
  have hp1 := h.ptr
  have hp2 := h'.ptr
  subst hp1 hp2
  obtain ⟨w1, hw1⟩ : ∃ w1, w1 = (w.alloc (.cells #[.pointer (some ⟨B, 0, none⟩)] 25)).alloc (.cells #[.pointer (some ⟨B', 0, none⟩)] 25) := ⟨_, rfl⟩
  have hbA : Below w.heap.size w w1 := by rw [hw1]; exact ((Below.refl _ _).alloc (Nat.le_refl _) _).alloc (by simp) _
  have hsA := h.below hbA
  have htA := h'.below hbA
  have hal := alike_any w1 base base' n n X Y B g B' g' _ _ hsA htA
  have hc1 : w1.cell? ⟨w.heap.size, 0, none⟩ = some (.pointer (some ⟨B, 0, none⟩)) := by
    rw [hw1, World.cell?_alloc_past _ _ _ (by simp), World.cell?_alloc_at _ _ _ _ rfl]; rfl
  have hc2 : w1.cell? ⟨w.heap.size + 1, 0, none⟩ = some (.pointer (some ⟨B', 0, none⟩)) := by
    rw [hw1, World.cell?_alloc_at _ _ _ _ (by simp)]; rfl
  have hsz : w1.heap.size = w.heap.size + 2 := by rw [hw1]; simp
  simp only [decide_true] at hal
  have hrows := hsA.rows
  have HW := hide hw1
  have HSZ := hide hsz
  go_enter Tryd.func11, Tryd.ntmps11
  go_wp2_with fail
  rw [← hw1]
  clear hw1 hsz
  refine hal.mono ?_
  rintro e1 w2 ⟨rfl, d, hd⟩
  have hbB : Below w.heap.size w w2 := by rw [hd]; exact below_drewN hbA d
  have hb12 : Below w1.heap.size w1 w2 := by rw [hd]; exact below_drewN (Below.refl _ _) d
  have hrows2 : w2.cell? ⟨B, 0, none⟩ = some (.int .i64 (n : Int)) := by rw [hd]; exact hrows
  have hcc1 : w2.cell? ⟨w.heap.size, 0, none⟩ = some (.pointer (some ⟨B, 0, none⟩)) := by rw [hd]; exact hc1
  have hcc2 : w2.cell? ⟨w.heap.size + 1, 0, none⟩ = some (.pointer (some ⟨B', 0, none⟩)) := by rw [hd]; exact hc2
  have hss := hsA.below hb12
  have htt := htA.below hb12
  clear hd hal hbA hsA htA hc1 hc2 hrows hb12
  go_wp2_with fail
  refine (made_or w2 n _ _ (fun i => wd X i ||| wd Y i) hn (fun i => Nat.or_lt_two_pow (wd_lt X i) (wd_lt Y i)) (fun w' hb i hi => or1_any w' base base' n X Y B g B' g' w.heap.size (w.heap.size + 1) i _ _ (hss.below hb) (htt.below hb) (by rw [hb.cell (World.block_lt_of_cell? _ _ hcc1)]; exact hcc1) (by rw [hb.cell (World.block_lt_of_cell? _ _ hcc2)]; exact hcc2) hi)).mono ?_
  rintro e1 w3 ⟨p', B3, g3, rfl, hs3, hb3⟩
  rw [told_or hlX hlY] at hs3
  go_wp2
  go_ret2
  have hs2 := hbB.size
  exact ⟨_, _, _, rfl, ⟨hs3.ptr, by have := hs3.ge; omega, hs3.ne, hs3.rows, hs3.words, own_mono hs3.own hs2, hs3.lt, hs3.le⟩, hbB.trans (below_mono hb3 hs2)⟩

set_option maxHeartbeats 400000 in
theorem not_any (w : World) (base n X B g : Nat) (p : Value) (h : ISet w base p n X B g) :
    Calls Tryd.prog 12 #[p] w fun e w' => ∃ p' B g, e = .returned p' ∧ ISet w' w.heap.size p' n (2 ^ n - (X + 1)) B g ∧ Below w.heap.size w w' := by
  have hn := h.le
  have hlX := h.lt
  have hp1 := h.ptr
  subst hp1
  obtain ⟨w1, hw1⟩ : ∃ w1, w1 = w.alloc (.cells #[.pointer (some ⟨B, 0, none⟩)] 25) := ⟨_, rfl⟩
  have hbA : Below w.heap.size w w1 := by rw [hw1]; exact (Below.refl _ _).alloc (Nat.le_refl _) _
  have hsA := h.below hbA
  have hc1 : w1.cell? ⟨w.heap.size, 0, none⟩ = some (.pointer (some ⟨B, 0, none⟩)) := by
    rw [hw1, World.cell?_alloc_at _ _ _ _ rfl]; rfl
  have hrows := h.rows
  have hB : B < w.heap.size := World.block_lt_of_cell? _ _ hrows
  go_enter Tryd.func12, Tryd.ntmps12
  go_wp2_with fail
  rw [← hw1]
  clear hw1
  refine (made_not w1 n _ (fun i => 2 ^ 64 - (wd X i + 1)) hn (fun i => by have := wd_lt X i; omega) (fun w' hb i hi => not1_any w' base n X B g w.heap.size i _ (hsA.below hb) (by rw [hb.cell (World.block_lt_of_cell? _ _ hc1)]; exact hc1) hi)).mono ?_
  rintro e1 w3 ⟨p', B3, g3, rfl, hs3, hb3⟩
  rw [told_not hlX] at hs3
  go_wp2
  go_ret
  have hs2 := hbA.size
  exact ⟨_, _, _, rfl, hs3.mono hs2, hbA.trans (below_mono hb3 hs2)⟩

set_option maxHeartbeats 400000 in
theorem count_any (w : World) (base n X B g : Nat) (p : Value) (h : ISet w base p n X B g) :
    Calls Tryd.prog 21 #[p] w fun e w' => e = .returned (.int .i64 ((cnt n X : Nat) : Int)) ∧ ∃ d, w' = w.drewN d := by
  have hn := h.le
  have hp1 := h.ptr
  subst hp1
  have hwords := fun i hi => h.word i hi
  have hc1 := h.words
  obtain ⟨m, hm⟩ : ∃ m, m = wn n := ⟨_, rfl⟩
  have hml : m ≤ 16384 := by rw [hm]; unfold wn; omega
  have hend : cnt (64 * m) X = cnt n X := cnt_ge n (64 * m) X h.lt (by rw [hm]; unfold wn; omega)
  rw [← hm] at hc1 hwords
  have HE := hide hend
  clear hend hm
  go_enter Tryd.func21, Tryd.ntmps21
  go_wp2_with fail
  go_loopw [3, 12] (fun vc i wr => ∃ k : Nat, k ≤ m ∧ i = .int .i64 k ∧ vc = .int .i64 ((cnt (64 * k) X : Nat) : Int) ∧ Hid (∃ d, wr = w.drewN d)) (fun _ i _ => m - (intOf i).toNat)
  case atStart => exact ⟨0, by omega, rfl, rfl, hide ⟨0, rfl⟩⟩
  case round =>
    obtain ⟨k, hk, rfl, rfl, HW⟩ := hrel
    by_cases hlt : k < m
    · have hlt' : (k : Int) < (m : Int) := by omega
      have hck : wr.cell? ⟨g, k, none⟩ = _ := (by obtain ⟨m, hm⟩ := unhide HW; rw [hm]; rfl : wr.cell? _ = w.cell? _).trans (hwords k hlt)
      have hcw : wr.cell? ⟨B, 1, none⟩ = _ := (by obtain ⟨m, hm⟩ := unhide HW; rw [hm]; rfl : wr.cell? _ = w.cell? _).trans hc1
      have hl := wd_lt X k
      have hcs : cnt (64 * (k + 1)) X = cnt (64 * k) X + cnt 64 (wd X k) := by
        rw [Nat.mul_succ, cnt_add]; unfold wd; rw [cnt_mod]
      have hcl := cnt_le (64 * k) X
      have hcl2 := cnt_le 64 (wd X k)
      have hone := fun w' => ones_any w' (wd X k) hl
      obtain ⟨x, hx⟩ : ∃ x, x = wd X k := ⟨_, rfl⟩
      obtain ⟨c, hc⟩ : ∃ c, c = cnt (64 * k) X := ⟨_, rfl⟩
      obtain ⟨c2, hc2⟩ : ∃ c2, c2 = cnt 64 (wd X k) := ⟨_, rfl⟩
      rw [← hc2] at hcs hcl2
      simp only [← hc2] at hone
      rw [← hc] at hcl hcs ⊢
      simp only [← hx] at hone hck
      have HCS := hide hcs
      clear hx hc hc2 hcs hl
      go_wp2_with fail
      refine (hone _).mono ?_
      rintro e w' ⟨rfl, rfl⟩
      go_wp2_with fail
      go_roundw
      case rel => exact ⟨k + 1, by omega, by go_num, by rw [unhide HCS]; go_num, hide (unhide HW)⟩
      case measure => simp [intOf]; omega
    · have ek : k = m := by omega
      subst ek
      go_wp2
      go_ret
      exact ⟨by rw [← unhide HE]; rfl, unhide HW⟩
end Go.Proofs.YtcldmjjbiifejaaDoor
