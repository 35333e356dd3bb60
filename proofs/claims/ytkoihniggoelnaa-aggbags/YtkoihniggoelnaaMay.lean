/- The contract of May. -/
import Derived.Test.YtkoihniggoelnaaMayT
namespace Go.Proofs.Ytkoihniggoelnaa
open Go.RowKit Go.Sort

def mayK (k : Int) (p : P0) : Bool := if k = 5 then mayT p else if k = 2 ∨ k = 3 ∨ k = 4 then decide (p.2.2.length = 0) && (decide (p.2.1 = 0) || (p.1 != 0)) else decide (p.2.1 = 0) && decide (p.2.2.length = 0)
def mayP (D M k c : Int) (p : P0) : Bool := fitv D M k c && mayK k p
def MayC (g : Nat) (k : Int) : Prop := ∀ (w : World) (p : Pt), p.Ok w → Calls Try.prog g #[.agg #[.int .u64 p.n, .int .i64 p.v, p.tv]] w fun e w' => e = .returned (.bool (mayK k p.p0)) ∧ Grows w w'
theorem way_may (k c : Int) : ∃ g x0 x1 x2 x3 : Nat, (g = 39 ∨ g = 45 ∨ g = 53) ∧ WayC k c x0 x1 x2 x3 g ∧ MayC g k := by
  have hcount : (k ≠ 2 ∧ k ≠ 3 ∧ k ≠ 4 ∧ k ≠ 5) → MayC 39 k := fun hk w p hp => by
    have : mayK k p.p0 = (decide (p.v = 0) && decide (p.ts.length = 0)) := by unfold mayK; rw [if_neg hk.2.2.2, if_neg (by omega)]; rfl
    rw [this]; exact mayCount_any w p hp
  have hnum : (k = 2 ∨ k = 3 ∨ k = 4) → MayC 45 k := fun hk w p hp => by
    have : mayK k p.p0 = (decide (p.ts.length = 0) && (decide (p.v = 0) || (p.n != 0))) := by unfold mayK; rw [if_neg (by omega), if_pos hk]; rfl
    rw [this]; exact mayNumber_any w p hp
  by_cases h1 : k = 1
  · subst h1
    exact ⟨_, _, _, _, _, .inl rfl, fun w => wayOf_1 w c, hcount (by decide)⟩
  · by_cases h2 : k = 2
    · subst h2
      exact ⟨_, _, _, _, _, .inr (.inl rfl), fun w => wayOf_2 w c, hnum (by decide)⟩
    · by_cases h3 : k = 3
      · subst h3
        exact ⟨_, _, _, _, _, .inr (.inl rfl), fun w => wayOf_3 w c, hnum (by decide)⟩
      · by_cases h4 : k = 4
        · subst h4
          exact ⟨_, _, _, _, _, .inr (.inl rfl), fun w => wayOf_4 w c, hnum (by decide)⟩
        · by_cases h5 : k = 5
          · subst h5
            exact ⟨_, _, _, _, _, .inr (.inr rfl), fun w => wayOf_5 w c, fun w p hp => mayTexts_any w p hp⟩
          · by_cases h0 : k = 0
            · subst h0
              exact ⟨_, _, _, _, _, .inl rfl, fun w => wayOf_0 w c, hcount (by decide)⟩
            · exact ⟨_, _, _, _, _, .inl rfl, fun w => wayOf_no w k (by omega) c, hcount ⟨h2, h3, h4, h5⟩⟩
theorem Grows.drew1 {w w' : World} (h : Grows w w') : Grows w w'.drew := h.trans (Grows.drewN _ 1)
theorem rd_one (W : World) (k c : Int) : RdsK 2 (W.alloc (.cells #[.int .i64 k, .int .i64 c] 26)).drew (.slice (some ⟨W.heap.size, 0, none⟩) 1 1) 1 (av [(k, c)]) ∧ RdsK 2 (W.drew.alloc (.cells #[.int .i64 k, .int .i64 c] 26)) (.slice (some ⟨W.heap.size, 0, none⟩) 1 1) 1 (av [(k, c)]) := by
  have key : ∀ X : World, X.cell? ⟨W.heap.size, 0, none⟩ = some (.int .i64 k) → X.cell? ⟨W.heap.size, 1, none⟩ = some (.int .i64 c) → RdsK 2 X (.slice (some ⟨W.heap.size, 0, none⟩) 1 1) 1 (av [(k, c)]) := fun X h0 h1 => by
    refine ⟨some ⟨W.heap.size, 0, none⟩, 1, rfl, by simp [av], Nat.le_refl _, by decide, (fun h => by cases h), ?_⟩
    rintro ad ⟨rfl⟩ j u hj
    have hj2 : j < 2 := by have := (List.getElem?_eq_some_iff.1 hj).1; simpa [av] using this
    have : j = 0 ∨ j = 1 := by omega
    rw [Addr.add_lit]
    rcases this with rfl | rfl
    · have : u = .int .i64 k := by simpa [av] using hj.symm
      subst this; exact h0
    · have : u = .int .i64 c := by simpa [av] using hj.symm
      subst this; exact h1
  exact ⟨key _ (al_new W _ _ rfl rfl) (al_new W _ _ rfl rfl), key _ (al_new W.drew _ _ rfl rfl) (al_new W.drew _ _ rfl rfl)⟩

set_option maxHeartbeats 8000000 in
theorem may_any (w : World) (D M k c : Int) (p : Pt) (hp : p.Ok w) :
    Calls Try.prog 13 #[.agg #[.int .i64 D, .int .i64 M], .agg #[.int .i64 k, .int .i64 c], .agg #[.int .u64 p.n, .int .i64 p.v, p.tv]] w fun e w' => e = .returned (.bool (mayP D M k c p.p0)) ∧ Grows w w' := by
  unfold mayP
  obtain ⟨W, hW⟩ : ∃ W, W = ((w.alloc (.cells #[.int .i64 D, .int .i64 M] 23)).alloc (.cells #[.int .i64 k, .int .i64 c] 26)).alloc (.cells #[.int .u64 p.n, .int .i64 p.v, p.tv] 30) := ⟨_, rfl⟩
  have gW : Grows w W := by rw [hW]; exact ((Grows.alloc _ _).trans (Grows.alloc _ _)).trans (Grows.alloc _ _)
  have hp0 : Box3 W (w.heap.size + 1 + 1) (.int .u64 p.n) (.int .i64 p.v) p.tv := by rw [hW]; exact Box3.new _ _ _ _ _ _ (by simp)
  have ha0 : W.cell? ⟨w.heap.size + 1, 0, none⟩ = some (.int .i64 k) ∧ W.cell? ⟨w.heap.size + 1, 1, none⟩ = some (.int .i64 c) := by
    rw [hW]
    exact ⟨cell_up (Grows.alloc _ _).below (al_new _ _ _ (by simp) rfl), cell_up (Grows.alloc _ _).below (al_new _ _ _ (by simp) rfl)⟩
  have hs0 : W.cell? ⟨w.heap.size, 0, none⟩ = some (.int .i64 D) ∧ W.cell? ⟨w.heap.size, 1, none⟩ = some (.int .i64 M) := by
    rw [hW]
    exact ⟨cell_up ((Grows.alloc _ _).trans (Grows.alloc _ _)).below (al_new _ _ _ rfl rfl), cell_up ((Grows.alloc _ _).trans (Grows.alloc _ _)).below (al_new _ _ _ rfl rfl)⟩
  have okp := hp.up gW.below
  obtain ⟨a1, n1, c1, e1⟩ := hp.rt.sl
  have keepS : ∀ X, Grows W X → (fun w' => Grows W w' ∧ w'.cell? ⟨w.heap.size, 0, none⟩ = some (.int .i64 D) ∧ w'.cell? ⟨w.heap.size, 1, none⟩ = some (.int .i64 M) ∧ w'.cell? ⟨w.heap.size + 1, 0, none⟩ = some (.int .i64 k) ∧ w'.cell? ⟨w.heap.size + 1, 1, none⟩ = some (.int .i64 c) ∧ w'.cell? ⟨w.heap.size + 1 + 1, 0, none⟩ = some (.int .u64 p.n) ∧ w'.cell? ⟨w.heap.size + 1 + 1, 1, none⟩ = some (.int .i64 p.v) ∧ w'.cell? ⟨w.heap.size + 1 + 1, 2, none⟩ = some (.slice a1 n1 c1)) X := fun X g => by
    have k1 := hp0.up g.below
    rw [e1] at k1
    exact ⟨g, cell_up g.below hs0.1, cell_up g.below hs0.2, cell_up g.below ha0.1, cell_up g.below ha0.2, k1.c0, k1.c1, k1.c2⟩
  obtain ⟨g, x0, x1, x2, x3, hfn, kW, kF0⟩ := way_may k c
  have kF : ∀ X, Grows W X → Calls Try.prog g #[.agg #[.int .u64 p.n, .int .i64 p.v, .slice a1 n1 c1]] X fun e w' => e = .returned (.bool (mayK k p.p0)) ∧ Grows X w' := fun X gX => by
    have := kF0 X p (okp.up gX.below)
    rw [e1] at this
    exact this
  have kCk : ∀ X, RdsK 2 X (.slice (some ⟨W.heap.size, 0, none⟩) 1 1) 1 (av [(k, c)]) → Calls Try.prog 11 #[.agg #[.int .i64 D, .int .i64 M], .slice (some ⟨W.heap.size, 0, none⟩) 1 1] X fun e w' => e = .returned (.int .i64 (if fitv D M k c then 0 else 1)) ∧ Grows X w' := fun X hX => by
    have := check_any X D M _ [(k, c)] hX
    have e : errB (decide ([(k, c)].length ≤ 16) && fitsL D M [(k, c)]) = if fitv D M k c then 0 else 1 := by
      simp [fitsL, errB]
    rw [e] at this
    exact this
  unfold WayC at kW
  simp only [fv] at kW
  have hfd : ∀ w : World, (Instr.field 61 (.agg #[.func (.func x0) #[] #[], .func (.func x1) #[] #[], .func (.func x2) #[] #[], .func (.func x3) #[] #[], .func (.func g) #[] #[]]) 4).run Try.prog w = .ok (.func (.func g) #[] #[]) w := fun _ => by kernel_rfl
  have mixed : Try.prog.follows .mixedOrders = true := by kernel_rfl
  have HGW : Hid (Grows w W) := gW
  rw [e1] at hW ⊢
  have HW : Hid _ := hW
  generalize mayK k p.p0 = R at *
  generalize fitv D M k c = Q at *
  clear hW hp gW hp0 ha0 hs0 okp e1 kF0
  cases Q with
  | true =>
    rw [Bool.true_and]
    rw [if_pos rfl] at kCk
    go_enter Try.func13, Try.ntmps13
    rcases hfn with rfl | rfl | rfl
    · go_wp2_with fail
      rw [← HW.out]
      go_region_held (fun w' => Grows W w' ∧ w'.cell? ⟨w.heap.size, 0, none⟩ = some (.int .i64 D) ∧ w'.cell? ⟨w.heap.size, 1, none⟩ = some (.int .i64 M) ∧ w'.cell? ⟨w.heap.size + 1, 0, none⟩ = some (.int .i64 k) ∧ w'.cell? ⟨w.heap.size + 1, 1, none⟩ = some (.int .i64 c) ∧ w'.cell? ⟨w.heap.size + 1 + 1, 0, none⟩ = some (.int .u64 p.n) ∧ w'.cell? ⟨w.heap.size + 1 + 1, 1, none⟩ = some (.int .i64 p.v) ∧ w'.cell? ⟨w.heap.size + 1 + 1, 2, none⟩ = some (.slice a1 n1 c1))
        (exact keepS _ (by repeat' (first | with_reducible assumption | with_reducible exact Grows.refl _ | with_reducible refine Grows.drew1 ?_ | with_reducible refine Grows.trans ?_ (Grows.alloc _ _))))
        (first
          | (go_at_call 11; (first | (with_reducible refine (kCk _ (rd_one W k c).1).mono ?_) | (with_reducible refine (kCk _ (rd_one W k c).2).mono ?_)); rintro e3 w3 ⟨rfl, g3⟩; have G3 : Grows W w3 := Grows.trans (by repeat' (first | with_reducible assumption | with_reducible exact Grows.refl _ | with_reducible refine Grows.drew1 ?_ | with_reducible refine Grows.trans ?_ (Grows.alloc _ _))) g3)
          | (go_at_call 25; (with_reducible refine (kW _).mono ?_); rintro e4 w4 ⟨rfl, g4⟩; have G4 : Grows W w4 := Grows.trans (by repeat' (first | with_reducible assumption | with_reducible exact Grows.refl _ | with_reducible refine Grows.drew1 ?_ | with_reducible refine Grows.trans ?_ (Grows.alloc _ _))) g4)
          | (go_at_call 39; (with_reducible refine (kF _ G4).mono ?_); rintro e5 w5 ⟨rfl, g5⟩; have G5 : Grows W w5 := Grows.trans (by repeat' (first | with_reducible assumption | with_reducible exact Grows.refl _ | with_reducible refine Grows.drew1 ?_ | with_reducible refine Grows.trans ?_ (Grows.alloc _ _))) g5))
      all_goals
        go_wp2_with fail
        go_ret
        exact ⟨rfl, HGW.out.trans (by repeat' (first | with_reducible assumption | with_reducible exact Grows.refl _ | with_reducible refine Grows.drew1 ?_ | with_reducible refine Grows.trans ?_ (Grows.alloc _ _)))⟩
    · go_wp2_with fail
      rw [← HW.out]
      go_region_held (fun w' => Grows W w' ∧ w'.cell? ⟨w.heap.size, 0, none⟩ = some (.int .i64 D) ∧ w'.cell? ⟨w.heap.size, 1, none⟩ = some (.int .i64 M) ∧ w'.cell? ⟨w.heap.size + 1, 0, none⟩ = some (.int .i64 k) ∧ w'.cell? ⟨w.heap.size + 1, 1, none⟩ = some (.int .i64 c) ∧ w'.cell? ⟨w.heap.size + 1 + 1, 0, none⟩ = some (.int .u64 p.n) ∧ w'.cell? ⟨w.heap.size + 1 + 1, 1, none⟩ = some (.int .i64 p.v) ∧ w'.cell? ⟨w.heap.size + 1 + 1, 2, none⟩ = some (.slice a1 n1 c1))
        (exact keepS _ (by repeat' (first | with_reducible assumption | with_reducible exact Grows.refl _ | with_reducible refine Grows.drew1 ?_ | with_reducible refine Grows.trans ?_ (Grows.alloc _ _))))
        (first
          | (go_at_call 11; (first | (with_reducible refine (kCk _ (rd_one W k c).1).mono ?_) | (with_reducible refine (kCk _ (rd_one W k c).2).mono ?_)); rintro e3 w3 ⟨rfl, g3⟩; have G3 : Grows W w3 := Grows.trans (by repeat' (first | with_reducible assumption | with_reducible exact Grows.refl _ | with_reducible refine Grows.drew1 ?_ | with_reducible refine Grows.trans ?_ (Grows.alloc _ _))) g3)
          | (go_at_call 25; (with_reducible refine (kW _).mono ?_); rintro e4 w4 ⟨rfl, g4⟩; have G4 : Grows W w4 := Grows.trans (by repeat' (first | with_reducible assumption | with_reducible exact Grows.refl _ | with_reducible refine Grows.drew1 ?_ | with_reducible refine Grows.trans ?_ (Grows.alloc _ _))) g4)
          | (go_at_call 45; (with_reducible refine (kF _ G4).mono ?_); rintro e5 w5 ⟨rfl, g5⟩; have G5 : Grows W w5 := Grows.trans (by repeat' (first | with_reducible assumption | with_reducible exact Grows.refl _ | with_reducible refine Grows.drew1 ?_ | with_reducible refine Grows.trans ?_ (Grows.alloc _ _))) g5))
      all_goals
        go_wp2_with fail
        go_ret
        exact ⟨rfl, HGW.out.trans (by repeat' (first | with_reducible assumption | with_reducible exact Grows.refl _ | with_reducible refine Grows.drew1 ?_ | with_reducible refine Grows.trans ?_ (Grows.alloc _ _)))⟩
    · go_wp2_with fail
      rw [← HW.out]
      go_region_held (fun w' => Grows W w' ∧ w'.cell? ⟨w.heap.size, 0, none⟩ = some (.int .i64 D) ∧ w'.cell? ⟨w.heap.size, 1, none⟩ = some (.int .i64 M) ∧ w'.cell? ⟨w.heap.size + 1, 0, none⟩ = some (.int .i64 k) ∧ w'.cell? ⟨w.heap.size + 1, 1, none⟩ = some (.int .i64 c) ∧ w'.cell? ⟨w.heap.size + 1 + 1, 0, none⟩ = some (.int .u64 p.n) ∧ w'.cell? ⟨w.heap.size + 1 + 1, 1, none⟩ = some (.int .i64 p.v) ∧ w'.cell? ⟨w.heap.size + 1 + 1, 2, none⟩ = some (.slice a1 n1 c1))
        (exact keepS _ (by repeat' (first | with_reducible assumption | with_reducible exact Grows.refl _ | with_reducible refine Grows.drew1 ?_ | with_reducible refine Grows.trans ?_ (Grows.alloc _ _))))
        (first
          | (go_at_call 11; (first | (with_reducible refine (kCk _ (rd_one W k c).1).mono ?_) | (with_reducible refine (kCk _ (rd_one W k c).2).mono ?_)); rintro e3 w3 ⟨rfl, g3⟩; have G3 : Grows W w3 := Grows.trans (by repeat' (first | with_reducible assumption | with_reducible exact Grows.refl _ | with_reducible refine Grows.drew1 ?_ | with_reducible refine Grows.trans ?_ (Grows.alloc _ _))) g3)
          | (go_at_call 25; (with_reducible refine (kW _).mono ?_); rintro e4 w4 ⟨rfl, g4⟩; have G4 : Grows W w4 := Grows.trans (by repeat' (first | with_reducible assumption | with_reducible exact Grows.refl _ | with_reducible refine Grows.drew1 ?_ | with_reducible refine Grows.trans ?_ (Grows.alloc _ _))) g4)
          | (go_at_call 53; (with_reducible refine (kF _ G4).mono ?_); rintro e5 w5 ⟨rfl, g5⟩; have G5 : Grows W w5 := Grows.trans (by repeat' (first | with_reducible assumption | with_reducible exact Grows.refl _ | with_reducible refine Grows.drew1 ?_ | with_reducible refine Grows.trans ?_ (Grows.alloc _ _))) g5))
      all_goals
        go_wp2_with fail
        go_ret
        exact ⟨rfl, HGW.out.trans (by repeat' (first | with_reducible assumption | with_reducible exact Grows.refl _ | with_reducible refine Grows.drew1 ?_ | with_reducible refine Grows.trans ?_ (Grows.alloc _ _)))⟩
  | false =>
    rw [Bool.false_and]
    rw [if_neg (by decide)] at kCk
    clear hfn kW kF hfd
    go_enter Try.func13, Try.ntmps13
    have d := keepS W (Grows.refl _)
    have dA := fun o => keepS (W.alloc o) (Grows.alloc _ _)
    obtain ⟨-, d0, d1, d2, d3, -⟩ := d
    have f0 := fun o => (dA o).2.1
    have f1 := fun o => (dA o).2.2.1
    have f2 := fun o => (dA o).2.2.2.1
    have f3 := fun o => (dA o).2.2.2.2.1
    clear dA keepS
    go_wp2_with fail
    rw [← HW.out]
    go_region_with (first
      | (go_at_call 11; (first | (with_reducible refine (kCk _ (rd_one W k c).1).mono ?_) | (with_reducible refine (kCk _ (rd_one W k c).2).mono ?_)); rintro e3 w3 ⟨rfl, g3⟩; have G3 : Grows W w3 := Grows.trans (by repeat' (first | with_reducible assumption | with_reducible exact Grows.refl _ | with_reducible refine Grows.drew1 ?_ | with_reducible refine Grows.trans ?_ (Grows.alloc _ _))) g3))
    all_goals
      go_wp2_with fail
      go_ret
      exact ⟨rfl, HGW.out.trans G3⟩
end Go.Proofs.Ytkoihniggoelnaa
