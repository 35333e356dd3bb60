/- Contracts of package blob: Get, Delete. -/
import Derived.Test.YthegdhbmfojdaaaBl1
namespace Go.Proofs.Ythegdhbmfojdaaa
open Go.RowKit Go.Maps Go.Sort
set_option linter.unusedVariables false

/-- A blob's file, and its draft. -/
def fB (x : Str) : Str := 98 :: 46 :: x
def fT (x : Str) : Str := 116 :: 46 :: x
theorem bNm_len {x : Str} (h : bNm x = true) : x.length ≤ 62 := by
  unfold bNm at h
  rw [Bool.and_eq_true] at h
  have := h.1
  simp at this
  omega
theorem rfB_zero {s : St} {x : Str} (h : rfB s x = 0) : s.off = false ∧ bNm x = true := by
  unfold rfB at h
  cases ho : s.off with
  | true => rw [ho] at h; simp at h
  | false =>
    rw [ho] at h
    cases hb : bNm x with
    | true => exact ⟨rfl, rfl⟩
    | false => rw [hb] at h; simp at h
theorem cat_b (w : World) (x : Str) (h : x.length ≤ 62) : (Op.stringOp .add ⟨#[98, 46]⟩ ⟨x.toArray⟩).run Try.prog w = .ok (.string ⟨(fB x).toArray⟩) w :=
  run_string_add_lists (P := Try.prog) w [98, 46] x (by simp) (by omega)
theorem cat_t (w : World) (x : Str) (h : x.length ≤ 62) : (Op.stringOp .add ⟨#[116, 46]⟩ ⟨x.toArray⟩).run Try.prog w = .ok (.string ⟨(fT x).toArray⟩) w :=
  run_string_add_lists (P := Try.prog) w [116, 46] x (by simp) (by omega)
/-- What Get answers. -/
def bget (s : St) (x : Str) : Nat × Str :=
  if rfB s x ≠ 0 then (rfB s x, []) else if rfF s (fB x) [] ≠ 0 then (rfF s (fB x) [], []) else if Wi.unf (rdC s (fB x)) = 0 then (0, (rdC s (fB x)).drop 8) else (11, [])
theorem code_nz {n : Nat} (h : n ≠ 0) : ((n : Int) == 0) = false := by simpa using h
set_option maxRecDepth 100000 in
set_option maxHeartbeats 1600000 in
theorem getB_any (w : World) (p d N : Nat) (F : Nat → Prop) (s : St) (x : Str) (h : Dk w d F N s) (hs : Sr w p d) (hx : x.length ≤ maxLen) (hN : N ≤ 140737488355328) :
    Calls Try.prog 23 #[.pointer (some ⟨p, 0, none⟩), .string ⟨x.toArray⟩] w fun e w' => ∃ v, e = .returned (.tuple #[v, .int .i64 ((bget s x).1 : Nat)]) ∧ Owns w' w.heap.size v (bget s x).2 ∧ Below w.heap.size w w' := by
  have kR := refusesB_any w p d N F s x h hs hx
  obtain ⟨c1, hc1⟩ : ∃ c, c = rfB s x := ⟨_, rfl⟩
  rw [← hc1] at kR
  have HC1 : Hid (c1 = rfB s x) := hc1
  have HD : Hid (Dk w d F N s) := h
  have HS : Hid (Sr w p d) := hs
  clear h hs hc1
  by_cases h0 : c1 = 0
  · subst h0
    obtain ⟨hoff, hbn⟩ := rfB_zero HC1.out.symm
    have hxl := bNm_len hbn
    go_enter Try.func23, Try.ntmps23
    go_wp2_with fail
    refine kR.mono ?_
    rintro e w1 ⟨rfl, b1⟩
    have c0 := BxA.cell (HS.out.below b1) 0 _ rfl
    have hcat := cat_b w1 x hxl
    have hfl : (fB x).length ≤ maxLen := by unfold fB maxLen; simp; omega
    have kD := read_any w1 d N F s (fB x) (HD.out.below b1) hfl hN
    have HB1 : Hid (Below w.heap.size w w1) := b1
    obtain ⟨c2, hc2⟩ : ∃ c, c = rfF s (fB x) [] := ⟨_, rfl⟩
    rw [← hc2] at kD
    have HC2 : Hid (c2 = rfF s (fB x) []) := hc2
    obtain ⟨l, hl⟩ : ∃ l, l = rdC s (fB x) := ⟨_, rfl⟩
    rw [← hl] at kD
    have HL : Hid (l = rdC s (fB x)) := hl
    obtain ⟨y, hy⟩ : ∃ y, y = fB x := ⟨_, rfl⟩
    rw [← hy] at kD hcat
    clear kR b1 hc2 hl hy hfl hoff hbn
    go_wp2_with fail
    refine kD.mono ?_
    rintro e w2 ⟨v2, rfl, o2, b2⟩
    have HO2 : Hid (Owns w2 w1.heap.size v2 l) := o2
    have HB2 : Hid (Below w.heap.size w w2) := HB1.out.trans (b2.mono HB1.out.size)
    obtain ⟨va, vc, hv2, -⟩ := o2.reads
    subst hv2
    clear kD o2 b2
    by_cases h2 : c2 = 0
    · subst h2
      by_cases hu : Wi.unf l = 0
      · have kU := Wi.unframe_ok w2 _ l HO2.out.reads hu
        go_wp2_with fail
        refine kU.mono ?_
        rintro e w3 ⟨v3, rfl, o3, b3⟩
        have HO3 : Hid (Owns w3 w2.heap.size v3 (l.drop 8)) := o3
        have HB3 : Hid (Below w.heap.size w w3) := HB2.out.trans (b3.mono HB2.out.size)
        clear kU o3 b3
        go_wp2_with fail
        go_ret2
        have e1 : bget s x = (0, l.drop 8) := by
          unfold bget
          rw [← HC1.out, ← HC2.out, ← HL.out, hu]
          rfl
        rw [e1]
        exact ⟨_, rfl, HO3.out.mono HB2.out.size, HB3.out⟩
      · have hl2 : l.length ≤ 2 ^ 63 - 1 := by
          obtain ⟨a, c, e, h1, h3, -⟩ := HO2.out.reads
          unfold maxLen at h3
          omega
        have kU := Wi.unframe_bad w2 _ l HO2.out.reads hl2 hu
        have hnz : ¬ ((Wi.unf l : Nat) : Int) = 0 := by omega
        obtain ⟨c3, hc3⟩ : ∃ c, c = Wi.unf l := ⟨_, rfl⟩
        rw [← hc3] at kU hnz
        have HU : Hid (¬ Wi.unf l = 0) := hu
        clear hu hc3 hl2
        go_wp2_with fail
        refine kU.mono ?_
        rintro e w3 ⟨rfl, b3⟩
        have HB3 : Hid (Below w.heap.size w w3) := HB2.out.trans (b3.mono HB2.out.size)
        clear kU b3
        go_wp2_with fail
        go_ret2
        have e1 : bget s x = (11, []) := by
          unfold bget
          rw [← HC1.out, ← HC2.out, ← HL.out, if_neg (by simp), if_neg (by simp), if_neg HU.out]
        rw [e1]
        exact ⟨_, rfl, ⟨rfl, .inl ⟨rfl, rfl⟩⟩, HB3.out⟩
    · have h2z : ¬ (c2 : Int) = 0 := by omega
      go_wp2_with fail
      go_ret2
      have e1 : bget s x = (c2, []) := by
        unfold bget
        rw [← HC1.out, ← HC2.out, if_neg (by simp), if_pos h2]
      rw [e1]
      exact ⟨_, rfl, ⟨rfl, .inl ⟨rfl, rfl⟩⟩, HB2.out⟩
  · have h0z : ¬ (c1 : Int) = 0 := by omega
    go_enter Try.func23, Try.ntmps23
    go_wp2_with fail
    refine kR.mono ?_
    rintro e w1 ⟨rfl, b1⟩
    have HB1 : Hid _ := b1
    clear kR b1
    go_wp2_with fail
    go_ret2
    have e1 : bget s x = (c1, []) := by
      unfold bget
      rw [← HC1.out, if_pos h0]
    rw [e1]
    exact ⟨_, rfl, ⟨rfl, .inl ⟨rfl, rfl⟩⟩, HB1.out⟩
/-- What Delete answers, and leaves. -/
def bdel (s : St) (x : Str) : Nat × St := if rfB s x ≠ 0 then (rfB s x, s) else s.remove (fB x)
set_option maxRecDepth 100000 in
set_option maxHeartbeats 1600000 in
theorem delB_any (w : World) (p d N : Nat) (F : Nat → Prop) (s : St) (x : Str) (h : Dk w d F N s) (hs : Sr w p d) (hx : x.length ≤ maxLen) (hop : s.ops < 1000000) :
    Calls Try.prog 21 #[.pointer (some ⟨p, 0, none⟩), .string ⟨x.toArray⟩] w fun e w' => e = .returned (.int .i64 ((bdel s x).1 : Nat)) ∧ Dk w' d F N (bdel s x).2 ∧ Fr F w w' := by
  have kR := refusesB_any w p d N F s x h hs hx
  obtain ⟨c1, hc1⟩ : ∃ c, c = rfB s x := ⟨_, rfl⟩
  rw [← hc1] at kR
  have HC1 : Hid (c1 = rfB s x) := hc1
  have HD : Hid (Dk w d F N s) := h
  have HS : Hid (Sr w p d) := hs
  clear h hs hc1
  by_cases h0 : c1 = 0
  · subst h0
    obtain ⟨hoff, hbn⟩ := rfB_zero HC1.out.symm
    have hxl := bNm_len hbn
    go_enter Try.func21, Try.ntmps21
    go_wp2_with fail
    refine kR.mono ?_
    rintro e w1 ⟨rfl, b1⟩
    have c0 := BxA.cell (HS.out.below b1) 0 _ rfl
    have hcat := cat_b w1 x hxl
    have hfl : (fB x).length ≤ maxLen := by unfold fB maxLen; simp; omega
    have kD := remove_any w1 d N F s (fB x) (HD.out.below b1) hfl hop
    have HB1 : Hid (Below w.heap.size w w1) := b1
    obtain ⟨c2, hc2⟩ : ∃ c, c = (s.remove (fB x)).1 := ⟨_, rfl⟩
    rw [← hc2] at kD
    have HC2 : Hid (c2 = (s.remove (fB x)).1) := hc2
    obtain ⟨s2, hs2⟩ : ∃ s2, s2 = (s.remove (fB x)).2 := ⟨_, rfl⟩
    rw [← hs2] at kD
    have HS2 : Hid (s2 = (s.remove (fB x)).2) := hs2
    obtain ⟨y, hy⟩ : ∃ y, y = fB x := ⟨_, rfl⟩
    rw [← hy] at kD hcat
    clear kR b1 hc2 hs2 hy hfl hoff hbn
    go_wp2_with fail
    refine kD.mono ?_
    rintro e w2 ⟨rfl, d2, f2⟩
    have HD2 : Hid (Dk w2 d F N s2) := d2
    have HF2 : Hid (Fr F w w2) := (Fr.of_below HB1.out).trans f2 fun _ _ h => h
    clear kD d2 f2
    go_wp2_with fail
    go_ret
    have e1 : bdel s x = s.remove (fB x) := by
      unfold bdel
      rw [← HC1.out, if_neg (by simp)]
    rw [e1, ← HC2.out, ← HS2.out]
    exact ⟨rfl, HD2.out, HF2.out⟩
  · have h0z : ¬ (c1 : Int) = 0 := by omega
    go_enter Try.func21, Try.ntmps21
    go_wp2_with fail
    refine kR.mono ?_
    rintro e w1 ⟨rfl, b1⟩
    have HB1 : Hid _ := b1
    clear kR b1
    go_wp2_with fail
    go_ret
    have e1 : bdel s x = (c1, s) := by
      unfold bdel
      rw [← HC1.out, if_pos h0]
    rw [e1]
    exact ⟨rfl, HD.out.below HB1.out, Fr.of_below HB1.out⟩
end Go.Proofs.Ythegdhbmfojdaaa
