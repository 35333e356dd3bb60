/- Contracts of the library's ContainsFunc and of mayTexts. -/
import Derived.Test.YtkoihniggoelnaaRise
import Derived.Shelf.Lay
import Derived.Ground.SlgfProg
namespace Go.Proofs.Ytkoihniggoelnaa
open Go.Shelf Go.RowKit Go.Sort
shelf_lay_g SlLaysH.n8 Slgf 8 at Try 58 as containsL

def longL (l : List Str) : Bool := l.any fun x => decide (64 < x.length)
theorem contains_any (w : World) (v : Value) (l : List Str) (h : Rds w v (sv l)) :
    Calls Try.prog 58 #[v, .func (.func 59) #[] #[]] w fun e w' => e = .returned (.bool (longL l)) ∧ Grows w w' := by
  obtain ⟨ao, n, cap, rfl⟩ := h.sl
  obtain ⟨hn, c1, c2, c3⟩ := h.cells
  rw [sv_length] at hn c1 c3
  unfold maxLen at c2
  have eg : ∀ args w, (callFunc 59 args).run Try.prog w = .ok (.enter 59 args) w := enters_of Try.func59 (by kernel_rfl) rfl
  rcases Nat.eq_zero_or_pos n with hz | hp
  · subst hz
    have hl : l = [] := List.eq_nil_of_length_eq_zero hn.symm
    subst hl
    have hc := AnyE.slices_ContainsFunc_empty containsL ao cap (.func (.func 59) #[] #[]) w
    change Calls Try.prog 58 _ _ _ at hc
    exact hc.mono fun _ _ ⟨h1, h2⟩ => ⟨h1, by rw [h2]; exact Grows.refl _⟩
  · obtain ⟨b, off, rfl, hcl⟩ := c3 (by omega)
    have hpred : PredAt Try.prog 59 #[] (fun x : Str => Value.string ⟨x.toArray⟩) (fun x => decide (64 < x.length)) w := by
      intro W x _
      have hh : Calls Try.prog 59 #[.string ⟨x.toArray⟩] W fun e w' => e = .returned (.bool (decide (64 < x.length))) ∧ ∃ q, w' = W.drewN q := (tooLong_any W x).mono fun _ _ ⟨h1, h2⟩ => ⟨h1, 0, by rw [h2]; rfl⟩
      unfold FnGives
      simpa using hh
    have hc := AnyE.slices_ContainsFunc containsL (fun x : Str => Value.string ⟨x.toArray⟩) (fun x => decide (64 < x.length)) 59 #[] eg b off n cap l w hpred (by omega) (by omega) (fun j hj => by
      have := hcl j _ (sv_get l j hj)
      rw [this]
      simp [hj])
    change Calls Try.prog 58 _ _ _ at hc
    rw [List.take_of_length_le (by omega)] at hc
    exact hc.mono fun _ _ ⟨h1, q, h2⟩ => ⟨h1, by rw [h2]; exact Grows.drewN _ _⟩

def mayT (p : P0) : Bool := decide (p.2.1 = 0) && ((decide (0 < p.2.2.length) || (p.1 == 0)) && (decide ((p.2.2.length : Int) ≤ p.1) && (riseL p.2.2 && !longL p.2.2)))
set_option maxHeartbeats 2000000 in
theorem mayTexts_any (w : World) (p : Pt) (hp : p.Ok w) : Calls Try.prog 53 #[.agg #[.int .u64 p.n, .int .i64 p.v, p.tv]] w fun e w' => e = .returned (.bool (mayT p.p0)) ∧ Grows w w' := by
  have e0 : mayT p.p0 = (decide (p.v = 0) && ((decide (0 < p.ts.length) || (p.n == 0)) && (decide ((p.ts.length : Int) ≤ p.n) && (riseL p.ts && !longL p.ts)))) := rfl
  rw [e0]
  obtain ⟨W, hW⟩ : ∃ W, W = w.alloc (.cells #[.int .u64 p.n, .int .i64 p.v, p.tv] 30) := ⟨_, rfl⟩
  have gW : Grows w W := by rw [hW]; exact Grows.alloc _ _
  have hbx : Box3 W w.heap.size (.int .u64 p.n) (.int .i64 p.v) p.tv := by rw [hW]; exact Box3.new _ _ _ _ _ _ rfl
  have kR := rise_any W p.tv p.ts (hp.up gW.below).rt
  have kC := fun X (g : Grows W X) => contains_any X p.tv p.ts ((hp.up gW.below).up g.below).rt
  obtain ⟨a1, n1, c1, e1⟩ := hp.rt.sl
  obtain ⟨h1, h2, h3⟩ := hp.len e1
  unfold maxLen at h3
  rw [e1] at hW hbx kR kC ⊢
  have HBx : Hid _ := hbx
  have HW : Hid _ := hW
  have HGW : Hid (Grows w W) := gW
  have HKC : Aside _ := kC
  rw [← h1]
  rw [hW] at kR
  generalize riseL p.ts = R at *
  generalize longL p.ts = L at *
  have hwr : IntKind.u64.wrap (n1 : Int) = n1 := by simp [IntKind.wrap, IntKind.bits, IntKind.signed]; omega
  clear hp e1 h1 gW hbx hW e0 kC
  by_cases hv : p.v = 0
  · have hvb : (p.v == 0) = true := by simp [hv]
    rw [decide_eq_true hv, Bool.true_and]
    clear hv
    rcases Nat.eq_zero_or_pos n1 with hz | hpo
    · subst hz
      by_cases hn : p.n = 0
      · have hnb : (p.n == 0) = true := by simp [hn]
        have hle : decide (((0 : Nat) : Int) ≤ p.n) = true := by simp [hn]
        have hle2 : (0 : Int) ≤ p.n := by omega
        clear hn
        go_enter Try.func53, Try.ntmps53
        go_wp2_with fail
        refine kR.mono ?_
        rintro e w3 ⟨rfl, g3⟩
        rw [← HW.out] at g3
        have bx3 := HBx.out.up g3.below
        obtain ⟨y0, y1, y2, -⟩ := bx3
        have kC3 := HKC.out w3 g3
        have HG3 : Hid (Grows w w3) := HGW.out.trans g3
        clear kR g3
        cases R with
        | false =>
          go_wp2_with fail
          go_ret
          exact ⟨by simp [hnb, hle2], HG3.out⟩
        | true =>
          go_wp2_with fail
          refine kC3.mono ?_
          rintro e w4 ⟨rfl, g4⟩
          have HG4 : Hid (Grows w w4) := HG3.out.trans g4
          clear kC3 g4
          go_wp2_with fail
          go_ret
          exact ⟨by simp [hnb, hle2], HG4.out⟩
      · have hnb : (p.n == 0) = false := by simp [hn]
        clear hn
        go_enter Try.func53, Try.ntmps53
        go_wp2_with fail
        rw [← HW.out]
        go_ret
        exact ⟨by simp [hnb], HGW.out⟩
    · have hpd : decide (0 < n1) = true := by simp [hpo]
      by_cases hle : (n1 : Int) ≤ p.n
      · have hlb : decide ((n1 : Int) ≤ p.n) = true := by simp [hle]
        go_enter Try.func53, Try.ntmps53
        go_wp2_with fail
        refine kR.mono ?_
        rintro e w3 ⟨rfl, g3⟩
        rw [← HW.out] at g3
        have bx3 := HBx.out.up g3.below
        obtain ⟨y0, y1, y2, -⟩ := bx3
        have kC3 := HKC.out w3 g3
        have HG3 : Hid (Grows w w3) := HGW.out.trans g3
        clear kR g3
        cases R with
        | false =>
          go_wp2_with fail
          go_ret
          exact ⟨by simp [hpo, hle], HG3.out⟩
        | true =>
          go_wp2_with fail
          refine kC3.mono ?_
          rintro e w4 ⟨rfl, g4⟩
          have HG4 : Hid (Grows w w4) := HG3.out.trans g4
          clear kC3 g4
          go_wp2_with fail
          go_ret
          exact ⟨by simp [hpo, hle], HG4.out⟩
      · have hlb : decide ((n1 : Int) ≤ p.n) = false := by simp [hle]
        go_enter Try.func53, Try.ntmps53
        go_wp2_with fail
        rw [← HW.out]
        go_ret
        exact ⟨by simp, HGW.out⟩
  · have hvb : (p.v == 0) = false := by simp [hv]
    rw [decide_eq_false hv, Bool.false_and]
    clear hv
    rcases Nat.eq_zero_or_pos n1 with hz | hpo
    · subst hz
      go_enter Try.func53, Try.ntmps53
      go_wp2_with fail
      rw [← HW.out]
      go_ret
      exact ⟨rfl, HGW.out⟩
    · have hpd : decide (0 < n1) = true := by simp [hpo]
      go_enter Try.func53, Try.ntmps53
      go_wp2_with fail
      rw [← HW.out]
      go_ret
      exact ⟨rfl, HGW.out⟩
end Go.Proofs.Ytkoihniggoelnaa
