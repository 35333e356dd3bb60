/- The walk of FactChecks. -/
import Derived.Test.YtgdeongeonhlpaaAwake
import Derived.Test.YtgdeongeonhlpaaRCmp
import Derived.Test.YtgdeongeonhlpaaRChk
import Derived.Lib.QuietBelow
namespace Go.Proofs.Ytgdeongeonhlpaa
open Go.RowKit Go.Sort

set_option maxRecDepth 100000 in
set_option maxHeartbeats 8000000 in
theorem checks_walk (w : World) (d m : Int) (a b : Fc) (ha : a.Ok w) (hb : b.Ok w) :
    Calls Try.prog 3 #[.agg #[.int .i64 d, .int .i64 m], .agg #[.int .i64 a.t, a.dv, a.mv], .agg #[.int .i64 b.t, b.dv, b.mv]] w fun e w' => e = .returned (.bool true) ∧ Below w.heap.size w w' := by
  obtain ⟨W1, hW1⟩ : ∃ W, W = w.alloc (.cells #[.int .i64 d, .int .i64 m] 23) := ⟨_, rfl⟩
  obtain ⟨W2, hW2⟩ : ∃ W, W = W1.alloc (.cells #[.int .i64 a.t, a.dv, a.mv] 27) := ⟨_, rfl⟩
  obtain ⟨W, hW3⟩ : ∃ W, W = W2.alloc (.cells #[.int .i64 b.t, b.dv, b.mv] 27) := ⟨_, rfl⟩
  have z1 : W1.heap.size = w.heap.size + 1 := by rw [hW1]; simp
  have z2 : W2.heap.size = w.heap.size + 2 := by rw [hW2]; simp [z1]
  have bW : Below w.heap.size w W := by rw [hW3, hW2, hW1]; exact (((Below.refl _ _).alloc (Nat.le_refl _) _).alloc (by simp) _).alloc (by rw [← hW1, ← hW2]; omega) _
  have up1 : ∀ {p : Addr} {v : Value}, W1.cell? p = some v → W.cell? p = some v := fun h => by rw [hW3, hW2]; exact cell_alloc_sl _ (cell_alloc_sl _ h)
  have up2 : ∀ {p : Addr} {v : Value}, W2.cell? p = some v → W.cell? p = some v := fun h => by rw [hW3]; exact cell_alloc_sl _ h
  have n1 : ∀ (o : Nat) {v : Value}, (#[Value.int .i64 d, .int .i64 m])[o]? = some v → W.cell? ⟨w.heap.size, o, none⟩ = some v := fun o {v} h => up1 (by rw [hW1]; exact al_new _ _ _ rfl h)
  have n2 : ∀ (o : Nat) {v : Value}, (#[Value.int .i64 a.t, a.dv, a.mv])[o]? = some v → W.cell? ⟨w.heap.size + 1, o, none⟩ = some v := fun o {v} h => up2 (by rw [hW2]; exact al_new _ _ _ z1.symm h)
  have n3 : ∀ (o : Nat) {v : Value}, (#[Value.int .i64 b.t, b.dv, b.mv])[o]? = some v → W.cell? ⟨w.heap.size + 2, o, none⟩ = some v := fun o {v} h => by rw [hW3]; exact al_new _ _ _ z2.symm h
  have hbox : ∀ w5, Below W.heap.size W w5 → (w5.cell? ⟨w.heap.size, 0, none⟩ = some (.int .i64 d) ∧ w5.cell? ⟨w.heap.size, 1, none⟩ = some (.int .i64 m)) ∧ (w5.cell? ⟨w.heap.size + 1, 0, none⟩ = some (.int .i64 a.t) ∧ w5.cell? ⟨w.heap.size + 1, 1, none⟩ = some a.dv ∧ w5.cell? ⟨w.heap.size + 1, 2, none⟩ = some a.mv) ∧ w5.cell? ⟨w.heap.size + 2, 0, none⟩ = some (.int .i64 b.t) ∧ w5.cell? ⟨w.heap.size + 2, 1, none⟩ = some b.dv ∧ w5.cell? ⟨w.heap.size + 2, 2, none⟩ = some b.mv := fun w5 h5 => by
    have up : ∀ {p : Addr} {v : Value}, W.cell? p = some v → w5.cell? p = some v := fun {p v} h => by rw [h5.cell (World.block_lt_of_cell? _ _ h)]; exact h
    exact ⟨⟨up (n1 0 rfl), up (n1 1 rfl)⟩, ⟨up (n2 0 rfl), up (n2 1 rfl), up (n2 2 rfl)⟩, up (n3 0 rfl), up (n3 1 rfl), up (n3 2 rfl)⟩
  have HBX : Aside _ := hbox
  have kA := awake_any W
  have HO : Hid (a.Ok W ∧ b.Ok W) := ⟨ha.below bW, hb.below bW⟩
  have HBW : Hid (Below w.heap.size w W) := bW
  have HW : Hid (W = ((w.alloc (.cells #[.int .i64 d, .int .i64 m] 23)).alloc (.cells #[.int .i64 a.t, a.dv, a.mv] 27)).alloc (.cells #[.int .i64 b.t, b.dv, b.mv] 27)) := by show W = _; rw [hW3, hW2, hW1]
  rw [HW.out] at kA
  have fin : ∀ w5, Below W.heap.size W w5 → Below w.heap.size w w5 := fun w5 h5 => HBW.out.trans (h5.mono HBW.out.size)
  have FIN : Aside _ := fin
  clear ha hb hbox bW hW1 hW2 hW3 n1 n2 n3 up1 up2 z1 z2 fin
  go_enter Try.func3, Try.ntmps3
  go_wp2_with fail
  refine kA.mono ?_
  rintro e w1 ⟨rfl, d1⟩
  rw [← HW.out] at d1
  have D1 : Below W.heap.size W w1 := d1
  obtain ⟨⟨s0, s1⟩, ⟨x0, x1, x2⟩, y0, y1, y2⟩ := HBX.out w1 D1
  have kR := reffine_any w1 d m
  clear kA d1
  go_wp2_with fail
  refine kR.mono ?_
  rintro e w2 ⟨rfl, d2⟩
  have D2 : Below W.heap.size W w2 := D1.trans (d2.mono D1.size)
  clear kR d2 s0 s1 x0 x1 x2 y0 y1 y2 D1
  obtain ⟨⟨s0, s1⟩, ⟨x0, x1, x2⟩, y0, y1, y2⟩ := HBX.out w2 D2
  have c1 := cell_regrown s0
  have c2 := cell_regrown s1
  have c3 := cell_regrown x0
  have c4 := cell_regrown x1
  have c5 := cell_regrown x2
  have c6 := cell_regrown y0
  have c7 := cell_regrown y1
  have c8 := cell_regrown y2
  have hok : ∀ n os, a.Ok (grow (redrawn w2 n) os) ∧ b.Ok (grow (redrawn w2 n) os) := fun n os => by
    have q := D2.trans ((below_regrown w2 n os).mono D2.size)
    exact ⟨HO.out.1.below q, HO.out.2.below q⟩
  have kF : ∀ n os, Calls Try.prog 11 #[.agg #[.int .i64 d, .int .i64 m]] (grow (redrawn w2 n) os) fun e w'' => e = .returned (.int .i64 (if finB d m = true then 0 else 1)) ∧ ∃ p : Regrown, w'' = grow (redrawn w2 p.d) p.os := fun n os => Calls.regrown_of (fine_any _ d m)
  have kC : ∀ n os, Calls Try.prog 12 #[.agg #[.int .i64 d, .int .i64 m], .agg #[.int .i64 a.t, a.dv, a.mv]] (grow (redrawn w2 n) os) fun e w'' => e = .returned (.int .i64 (chk d m a.ft)) ∧ ∃ p : Regrown, w'' = grow (redrawn w2 p.d) p.os := fun n os => Calls.regrown_of (check_any _ d m a (hok n os).1)
  have kD : ∀ n os, Calls Try.prog 13 #[.agg #[.int .i64 d, .int .i64 m], .agg #[.int .i64 a.t, a.dv, a.mv]] (grow (redrawn w2 n) os) fun e w'' => e = .returned (.int .i64 (chk d m a.ft)) ∧ ∃ p : Regrown, w'' = grow (redrawn w2 p.d) p.os := fun n os => Calls.regrown_of (refchk_any _ d m a (hok n os).1)
  have kX : ∀ n os, Calls Try.prog 14 #[.agg #[.int .i64 a.t, a.dv, a.mv], .agg #[.int .i64 b.t, b.dv, b.mv]] (grow (redrawn w2 n) os) fun e w'' => e = .returned (.int .i64 (cmpF a.ft b.ft)) ∧ ∃ p : Regrown, w'' = grow (redrawn w2 p.d) p.os := fun n os => Calls.regrown_of ((compare_any _ a b (hok n os).1 (hok n os).2).mono fun _ _ ⟨he, hg⟩ => ⟨he, hg.below⟩)
  have kY : ∀ n os, Calls Try.prog 15 #[.agg #[.int .i64 a.t, a.dv, a.mv], .agg #[.int .i64 b.t, b.dv, b.mv]] (grow (redrawn w2 n) os) fun e w'' => e = .returned (.int .i64 (cmpF a.ft b.ft)) ∧ ∃ p : Regrown, w'' = grow (redrawn w2 p.d) p.os := fun n os => Calls.regrown_of ((refcmp_any _ a b (hok n os).1 (hok n os).2).mono fun _ _ ⟨he, hg⟩ => ⟨he, hg.below⟩)
  have kZ : ∀ n os, Calls Try.prog 14 #[.agg #[.int .i64 a.t, a.dv, a.mv], .agg #[.int .i64 a.t, a.dv, a.mv]] (grow (redrawn w2 n) os) fun e w'' => e = .returned (.int .i64 0) ∧ ∃ p : Regrown, w'' = grow (redrawn w2 p.d) p.os := fun n os => Calls.regrown_of ((compare_any _ a a (hok n os).1 (hok n os).1).mono fun _ _ ⟨he, hg⟩ => ⟨by rw [he, cmpF_ord.refl], hg.below⟩)
  have HD2 : Hid (Below W.heap.size W w2) := D2
  clear HBX HO s0 s1 x0 x1 x2 y0 y1 y2 D2 hok
  have mixed := slay.mixed
  generalize chk d m a.ft = G at *
  generalize cmpF a.ft b.ft = C at *
  generalize finB d m = B at *
  generalize a.t = ta at *
  generalize a.dv = da at *
  generalize a.mv = ma at *
  generalize b.t = tb at *
  generalize b.dv = db at *
  generalize b.mv = mb at *
  cases B
  all_goals
    simp only [if_true, if_false, Bool.false_eq_true] at kF
    go_wp2_with fail
    refine wp_region_quiet_below (by assumption) (by kernel_rfl) ?_
    repeat (quiet_step (first | with_reducible exact kF _ _ | with_reducible exact kC _ _ | with_reducible exact kD _ _ | with_reducible exact kX _ _ | with_reducible exact kY _ _ | with_reducible exact kZ _ _))
    refine wpQuiet_nil ?_
    intro _ hw'
    obtain ⟨⟨dq, osq⟩, hw''⟩ := hw'
    subst hw''
    go_wp2_with fail
    go_ret
    exact ⟨by simp, FIN.out _ (HD2.out.trans ((below_regrown w2 dq osq).mono HD2.out.size))⟩
end Go.Proofs.Ytgdeongeonhlpaa
