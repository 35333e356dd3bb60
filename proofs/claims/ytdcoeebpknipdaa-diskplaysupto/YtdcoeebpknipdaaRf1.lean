/- The reference's disk: refused. -/
import Derived.Test.YtdcoeebpknipdaaRfM
namespace Go.Proofs.Ytdcoeebpknipdaa
open Go.RowKit Go.Maps Go.Sort
set_option linter.unusedVariables false

def rrc (s : RSt) (a b : Str) : Nat := if s.off then 122 else if isNm a = false then 1 else if isNm b = false then 1 else if hasF s.fs a then 0 else 120
theorem fI_has {fs : List Fl} {t : Str} (h : hasF fs t = true) : ∃ i : Nat, ∃ hi : i < fs.length, fI fs t = (i : Int) ∧ fs[i].nm = t := by
  unfold fI
  cases hf : fs.findIdx? (fun f => f.nm == t) with
  | none =>
    rw [List.findIdx?_eq_none_iff] at hf
    unfold hasF at h
    rw [List.any_eq_true] at h
    obtain ⟨f, h1, h2⟩ := h
    rw [hf f h1] at h2
    cases h2
  | some i =>
    rw [List.findIdx?_eq_some_iff_getElem] at hf
    obtain ⟨hi, h1, _⟩ := hf
    exact ⟨i, hi, rfl, by simpa using h1⟩
set_option maxHeartbeats 800000 in
theorem refrefused_any (w : World) (r N : Nat) (F : Nat → Prop) (s : RSt) (a b : Str) (h : Rd w r F N s) (ha : a.length ≤ maxLen) (hb : b.length ≤ maxLen) :
    Calls Try.prog 57 #[.pointer (some ⟨r, 0, none⟩), .string ⟨a.toArray⟩, .string ⟨b.toArray⟩] w fun e w' => e = .returned (.int .i64 (rrc s a b : Nat)) ∧ w' = w := by
  have kA := refname_any w a ha
  have kB := refname_any w b hb
  have kF := reffind_any w r N F s a h
  obtain ⟨Lv, Z, hz⟩ := h
  have c1 : w.cell? ⟨r, 1, none⟩ = some (.bool s.off) := BxA.cell hz.b 1 _ rfl
  unfold rrc
  clear hz ha hb
  cases ho : s.off with
  | true =>
    rw [ho] at c1
    go_enter Try.func57, Try.ntmps57
    go_wp2_with fail
    go_ret
    exact ⟨rfl, rfl⟩
  | false =>
    rw [ho] at c1
    cases hA : isNm a with
    | false =>
      rw [hA] at kA
      go_enter Try.func57, Try.ntmps57
      go_wp2_with fail
      refine kA.mono ?_
      rintro e w1 ⟨rfl, rfl⟩
      go_wp2_with fail
      refine kB.mono ?_
      rintro e w1 ⟨rfl, rfl⟩
      go_wp2_with fail
      go_ret
      exact ⟨rfl, rfl⟩
    | true =>
      rw [hA] at kA
      cases hB : isNm b with
      | false =>
        rw [hB] at kB
        go_enter Try.func57, Try.ntmps57
        go_wp2_with fail
        refine kA.mono ?_
        rintro e w1 ⟨rfl, rfl⟩
        go_wp2_with fail
        refine kB.mono ?_
        rintro e w1 ⟨rfl, rfl⟩
        go_wp2_with fail
        go_ret
        exact ⟨rfl, rfl⟩
      | true =>
        rw [hB] at kB
        cases hH : hasF s.fs a with
        | false =>
          rw [fI_none hH] at kF
          go_enter Try.func57, Try.ntmps57
          go_wp2_with fail
          refine kA.mono ?_
          rintro e w1 ⟨rfl, rfl⟩
          go_wp2_with fail
          refine kB.mono ?_
          rintro e w1 ⟨rfl, rfl⟩
          go_wp2_with fail
          refine kF.mono ?_
          rintro e w1 ⟨rfl, rfl⟩
          go_wp2_with fail
          go_ret
          exact ⟨rfl, rfl⟩
        | true =>
          obtain ⟨i, hi, e1, -⟩ := fI_has hH
          rw [e1] at kF
          have hiz : ¬ (i : Int) < 0 := by omega
          clear e1 hi
          go_enter Try.func57, Try.ntmps57
          go_wp2_with fail
          refine kA.mono ?_
          rintro e w1 ⟨rfl, rfl⟩
          go_wp2_with fail
          refine kB.mono ?_
          rintro e w1 ⟨rfl, rfl⟩
          go_wp2_with fail
          refine kF.mono ?_
          rintro e w1 ⟨rfl, rfl⟩
          go_wp2_with fail
          go_ret
          exact ⟨rfl, rfl⟩
end Go.Proofs.Ytdcoeebpknipdaa
