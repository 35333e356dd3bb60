/- Contracts of package blob: what is there already; how a blob is written. -/
import Derived.Test.YthegdhbmfojdaaaBl3
namespace Go.Proofs.Ythegdhbmfojdaaa
open Go.RowKit Go.Maps Go.Sort
set_option linter.unusedVariables false

set_option maxRecDepth 100000 in
theorem equal_any (w : World) (a b : Value) (l m : Str) (ha : Reads w a l) (hb : Reads w b m) : Calls Try.prog 77 #[a, b] w fun e w' => e = .returned (.bool (decide (l = m))) ∧ Below w.heap.size w w' := by
  have h1 := conv_string w a l ha
  have h2 := conv_string w b m hb
  by_cases he : l = m
  · have he2 : (l == m) = true := by simpa using he
    have HE : Hid (l = m) := he
    clear he
    go_enter Try.func77, Try.ntmps77
    go_wp2_with fail
    go_ret
    exact ⟨by rw [decide_eq_true HE.out]; simp [HE.out], Below.refl _ _⟩
  · have he2 : (l == m) = false := by simpa using he
    have HE : Hid (¬ l = m) := he
    clear he
    go_enter Try.func77, Try.ntmps77
    go_wp2_with fail
    go_ret
    exact ⟨by rw [decide_eq_false HE.out]; simp, Below.refl _ _⟩
/-- Is the blob there, with these bytes? None: it is there with others. -/
def hol (s : St) (x l : Str) : Option Bool := if (bget s x).1 = 120 then some false else if (bget s x).1 = 0 ∧ (bget s x).2 = l then some true else none
set_option maxRecDepth 100000 in
set_option maxHeartbeats 1600000 in
theorem holds_any (w : World) (p d N : Nat) (F : Nat → Prop) (s : St) (x l : Str) (v : Value) (h : Dk w d F N s) (hs : Sr w p d) (hx : x.length ≤ maxLen) (hN : N ≤ 140737488355328) (hv : Reads w v l) :
    Calls Try.prog 46 #[.pointer (some ⟨p, 0, none⟩), .string ⟨x.toArray⟩, v] w fun e w' => (match hol s x l with | some b => e = .returned (.bool b) | none => e = .panicked [{ v := stopV 121, recovered := false }]) ∧ Below w.heap.size w w' := by
  have kG := getB_any w p d N F s x h hs hx hN
  unfold hol
  obtain ⟨c, hc⟩ : ∃ c, c = (bget s x).1 := ⟨_, rfl⟩
  obtain ⟨m, hm⟩ : ∃ m, m = (bget s x).2 := ⟨_, rfl⟩
  rw [← hc, ← hm]
  rw [← hc, ← hm] at kG
  have HV : Hid (Reads w v l) := hv
  clear h hs hx hc hm hv
  by_cases h1 : c = 120
  · subst h1
    go_enter Try.func46, Try.ntmps46
    go_wp2_with fail
    refine kG.mono ?_
    rintro e w1 ⟨u, rfl, o1, b1⟩
    have HB : Hid _ := b1
    clear kG o1 b1
    go_wp2_with fail
    go_ret
    exact ⟨rfl, HB.out⟩
  · have h1z : ¬ (c : Int) = 120 := by omega
    rw [if_neg h1]
    by_cases h2 : c = 0
    · subst h2
      by_cases h3 : m = l
      · rw [if_pos ⟨rfl, h3⟩]
        go_enter Try.func46, Try.ntmps46
        go_wp2_with fail
        refine kG.mono ?_
        rintro e w1 ⟨u, rfl, o1, b1⟩
        have kE := equal_any w1 u v m l o1.reads (HV.out.below b1)
        rw [decide_eq_true h3] at kE
        have HB : Hid (Below w.heap.size w w1) := b1
        clear kG o1 b1
        go_wp2_with fail
        refine kE.mono ?_
        rintro e w2 ⟨rfl, b2⟩
        have HB2 : Hid (Below w.heap.size w w2) := HB.out.trans (b2.mono HB.out.size)
        clear kE b2
        go_wp2_with fail
        go_ret
        exact ⟨rfl, HB2.out⟩
      · rw [if_neg (fun h => h3 h.2)]
        go_enter Try.func46, Try.ntmps46
        go_wp2_with fail
        refine kG.mono ?_
        rintro e w1 ⟨u, rfl, o1, b1⟩
        have kE := equal_any w1 u v m l o1.reads (HV.out.below b1)
        rw [decide_eq_false h3] at kE
        have HB : Hid (Below w.heap.size w w1) := b1
        clear kG o1 b1 h3
        go_wp2_with fail
        refine kE.mono ?_
        rintro e w2 ⟨rfl, b2⟩
        have HB2 : Hid (Below w.heap.size w w2) := HB.out.trans (b2.mono HB.out.size)
        clear kE b2
        go_wp2_with fail
        simp only [bodyPost]
        exact ⟨trivial, rfl, HB2.out⟩
    · have h2z : ¬ (c : Int) = 0 := by omega
      rw [if_neg (fun h => h2 h.1)]
      go_enter Try.func46, Try.ntmps46
      go_wp2_with fail
      refine kG.mono ?_
      rintro e w1 ⟨u, rfl, o1, b1⟩
      have HB : Hid (Below w.heap.size w w1) := b1
      clear kG o1 b1
      go_wp2_with fail
      simp only [bodyPost]
      exact ⟨trivial, rfl, HB.out⟩
end Go.Proofs.Ythegdhbmfojdaaa
