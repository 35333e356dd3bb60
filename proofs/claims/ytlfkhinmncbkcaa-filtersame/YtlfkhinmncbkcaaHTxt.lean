/- The contract of holdsText. -/
import Derived.Test.YtlfkhinmncbkcaaTxt
namespace Go.Proofs.Ytlfkhinmncbkcaa
open Go.RowKit Go.Sort

/-- Does a part that looks at a text hold of it? -/
def Tr.txt (t : Tr) (s : Str) : Bool :=
  if t.k = 5 then hasT t.ts s
  else if t.k = 6 then decide (t.ts.length = 2) && ((Op.bytesLess (t.ts.getD 0 []) s || t.ts.getD 0 [] == s) && Op.bytesLess s (t.ts.getD 1 []))
  else if t.k = 7 then decide (t.ts.length = 1) && pre (t.ts.getD 0 []) s
  else false

set_option maxHeartbeats 4000000 in
theorem htext_any (w : World) (t : Tr) (s : Str) (h : t.Ok w) :
    Calls Try.prog 38 #[.agg #[.int .i64 t.k, .int .i64 t.d, t.tv, .int .i64 t.lo, .int .i64 t.hi, t.kv], .string ⟨s.toArray⟩] w fun e w' => e = .returned (.bool (t.txt s)) ∧ Grows w w' := by
  obtain ⟨at', nt, ct, ak, nk, ck, e1, e2, -, -, -, -⟩ := h.lens
  obtain ⟨W, hW⟩ : ∃ W, W = w.alloc (.cells #[.int .i64 t.k, .int .i64 t.d, t.tv, .int .i64 t.lo, .int .i64 t.hi, t.kv] 27) := ⟨_, rfl⟩
  have gW : Grows w W := by rw [hW]; exact Grows.alloc _ _
  have hrt := (h.up gW.below).rt
  have kH := has_any W t.tv t.ts s hrt
  rw [e1] at hrt
  obtain ⟨hnt, hc1, hc2, hc3⟩ := hrt.cells
  rw [sv_length] at hnt hc1
  rw [← hnt] at hc1
  unfold maxLen at hc2
  have HH : Aside (∀ i, i < t.ts.length → ∃ b off, at' = some ⟨b, off, none⟩ ∧ W.cell? ⟨b, off + i, none⟩ = some (.string ⟨(t.ts.getD i []).toArray⟩)) := fun i hi => by
    obtain ⟨b, off, e, hc⟩ := hc3 (by rw [sv_length]; omega)
    exact ⟨b, off, e, hc i _ (sv_get t.ts i hi)⟩
  have tx := str_toList s
  have hfit : t.txt s = if t.k = 5 then hasT t.ts s
    else if t.k = 6 then decide (nt = 2) && ((Op.bytesLess (t.ts.getD 0 []) s || t.ts.getD 0 [] == s) && Op.bytesLess s (t.ts.getD 1 []))
    else if t.k = 7 then decide (nt = 1) && pre (t.ts.getD 0 []) s
    else false := by unfold Tr.txt; rw [hnt]
  rw [hfit]
  have HNT : Hid (nt = t.ts.length) := hnt
  have HG : Hid (Grows w W) := gW
  have HW : Hid _ := hW
  rw [hW, e1, e2] at kH
  rw [e1, e2] at HW ⊢
  rw [HW.out] at HH
  clear h gW hW hfit e1 e2 hnt hc3 hrt
  generalize t.ts = ts at *
  generalize t.k = k at *
  generalize t.d = d at *
  generalize t.lo = lo at *
  generalize t.hi = hi at *
  by_cases h5 : k = 5
  · subst h5
    rw [if_pos rfl]
    generalize hasT ts s = r at *
    go_enter Try.func38, Try.ntmps38
    go_wp2_with fail
    refine kH.mono ?_
    rintro e w5 ⟨rfl, rfl⟩
    rw [← HW.out]
    go_wp2_with fail
    go_ret
    exact ⟨rfl, HG.out⟩
  · rw [if_neg h5]
    have c5 : (k == 5) = false := by simp; omega
    clear kH
    by_cases h6 : k = 6
    · subst h6
      rw [if_pos rfl]
      clear c5 h5
      by_cases hn : nt = 2
      · rw [decide_eq_true hn]
        obtain ⟨b, off, hb0, q0⟩ := HH.out 0 (by have := HNT.out; omega)
        obtain ⟨b', off', hb1, q1⟩ := HH.out 1 (by have := HNT.out; omega)
        rw [hb0] at hb1
        simp only [Option.some.injEq, Addr.mk.injEq, and_true] at hb1
        obtain ⟨rfl, rfl⟩ := hb1
        rw [Nat.add_zero] at q0
        subst hb0
        subst hn
        generalize ts.getD 0 [] = s0 at *
        generalize ts.getD 1 [] = s1 at *
        have t0 := str_toList s0
        have t1 := str_toList s1
        generalize hb1 : Op.bytesLess s s1 = r1 at *
        cases hb0 : Op.bytesLess s0 s with
        | true =>
          go_enter Try.func38, Try.ntmps38
          go_wp2_with fail
          rw [← HW.out]
          go_ret
          exact ⟨by simp, HG.out⟩
        | false =>
          cases he0 : (s0 == s) with
          | true =>
            go_enter Try.func38, Try.ntmps38
            go_wp2_with fail
            rw [← HW.out]
            go_ret
            exact ⟨by simp, HG.out⟩
          | false =>
            go_enter Try.func38, Try.ntmps38
            go_wp2_with fail
            rw [← HW.out]
            go_ret
            exact ⟨by simp, HG.out⟩
      · rw [decide_eq_false hn]
        have hnb : ((nt : Int) == 2) = false := by simp; omega
        clear hn
        go_enter Try.func38, Try.ntmps38
        go_wp2_with fail
        rw [← HW.out]
        go_ret
        exact ⟨rfl, HG.out⟩
    · rw [if_neg h6]
      have c6 : (k == 6) = false := by simp; omega
      by_cases h7 : k = 7
      · subst h7
        rw [if_pos rfl]
        clear c5 c6 h5 h6
        by_cases hn : nt = 1
        · rw [decide_eq_true hn]
          obtain ⟨b, off, hb0, q0⟩ := HH.out 0 (by have := HNT.out; omega)
          rw [Nat.add_zero] at q0
          subst hb0
          subst hn
          generalize ts.getD 0 [] = s0 at *
          have kP := pre_any W s s0
          rw [HW.out] at kP
          generalize pre s0 s = r at *
          go_enter Try.func38, Try.ntmps38
          go_wp2_with fail
          refine kP.mono ?_
          rintro e w5 ⟨rfl, rfl⟩
          rw [← HW.out]
          go_wp2_with fail
          go_ret
          exact ⟨by simp, HG.out⟩
        · rw [decide_eq_false hn]
          have hnb : ((nt : Int) == 1) = false := by simp; omega
          clear hn
          go_enter Try.func38, Try.ntmps38
          go_wp2_with fail
          rw [← HW.out]
          go_ret
          exact ⟨rfl, HG.out⟩
      · rw [if_neg h7]
        have c7 : (k == 7) = false := by simp; omega
        clear h5 h6 h7
        go_enter Try.func38, Try.ntmps38
        go_wp2_with fail
        rw [← HW.out]
        go_ret
        exact ⟨rfl, HG.out⟩
end Go.Proofs.Ytlfkhinmncbkcaa
