/- Contracts of package blob: how a blob is written. -/
import Derived.Test.YthegdhbmfojdaaaBl4
namespace Go.Proofs.Ythegdhbmfojdaaa
open Go.RowKit Go.Maps Go.Sort
set_option linter.unusedVariables false

/-- The steps of a Put, one behind the other. -/
def wr1 (s : St) (x : Str) : Nat × St := if (s.remove (fT x)).1 = 120 then (0, (s.remove (fT x)).2) else s.remove (fT x)
def thn (r : Nat × St) (f : St → Nat × St) : Nat × St := if r.1 ≠ 0 then r else f r.2
def wrB (s : St) (x fl : Str) : Nat × St := thn (thn (thn (wr1 s x) fun s => s.append (fT x) fl) fun s => s.sync (fT x)) fun s => s.rename (fT x) (fB x)
/-- Behind a step: what is answered or thrown, and the disk. -/
structure Wd (w w' : World) (d N : Nat) (F : Nat → Prop) (s : St) : Prop where
  ex : ∃ F', Dk w' d F' N s ∧ ∀ i, F' i → F i ∨ w.heap.size ≤ i
  fr : Fr F w w'
def endB (c : Nat) (e : Ending) : Prop := if c = 0 then e = .returned (.tuple #[]) else e = .panicked [{ v := stopV c, recovered := false }]
theorem endB_ok {e : Ending} (h : e = .returned (.tuple #[])) : endB 0 e := by unfold endB; rw [if_pos rfl]; exact h
theorem endB_bad {c : Nat} (hc : c ≠ 0) {e : Ending} (h : e = .panicked [{ v := stopV c, recovered := false }]) : endB c e := by unfold endB; rw [if_neg hc]; exact h
theorem cut_ops (s : St) (p : Int) : (s.cut p).ops = s.ops := by unfold St.cut; split <;> rfl
theorem count_ops (s : St) : s.count.2.ops = s.ops + 1 := by
  unfold St.count
  split
  · exact cut_ops _ _
  · rfl
theorem begins_ops (s : St) (t : Str) (ns : List Str) : (s.begins t ns).2.ops ≤ s.ops + 1 := by
  unfold St.begins
  split
  · exact Nat.le_succ _
  · exact Nat.le_of_eq (count_ops s)
theorem remove_ops (s : St) (t : Str) : (s.remove t).2.ops ≤ s.ops + 1 := by
  unfold St.remove
  split
  · exact begins_ops s t []
  · exact begins_ops s t []
theorem sync_ops (s : St) (t : Str) : (s.sync t).2.ops ≤ s.ops + 1 := by
  unfold St.sync
  split
  · exact begins_ops s t []
  · exact begins_ops s t []
theorem rename_ops (s : St) (t u : Str) : (s.rename t u).2.ops ≤ s.ops + 1 := by
  unfold St.rename
  split
  · exact begins_ops s t [u]
  · exact begins_ops s t [u]
theorem append_ops (s : St) (t b : Str) : (s.append t b).2.ops ≤ s.ops + 1 := by
  unfold St.append
  split
  · exact Nat.le_succ _
  · split
    · exact Nat.le_succ _
    · exact Nat.le_of_eq (count_ops _)
theorem Dk.more {w : World} {d N M : Nat} {F : Nat → Prop} {s : St} (h : Dk w d F N s) (hm : N ≤ M) : Dk w d F M s := by
  obtain ⟨mo, Z, z⟩ := h
  exact ⟨mo, Z, z.b, z.f, z.m, z.fm, z.e, z.ap, z.fs, fun x hx => Nat.le_trans (z.n x hx) hm, z.nm, z.few, z.ops, z.lt⟩
theorem Wd.same {w w' : World} {d N : Nat} {F : Nat → Prop} {s : St} (h : Dk w' d F N s) (f : Fr F w w') : Wd w w' d N F s := ⟨⟨F, h, fun _ h => .inl h⟩, f⟩
set_option maxRecDepth 100000 in
set_option maxHeartbeats 3200000 in
theorem write_any (w : World) (p d N : Nat) (F : Nat → Prop) (s : St) (x fl : Str) (v : Value) (h : Dk w d F N s) (hs : Sr w p d) (hp : ¬ F p) (hx : x.length ≤ 62) (hv : ∀ w', Fr F w w' → Reads w' v fl) (hN : N + fl.length ≤ 140737488355328) (hop : s.ops < 999990) :
    Calls Try.prog 47 #[.pointer (some ⟨p, 0, none⟩), .string ⟨x.toArray⟩, v] w fun e w' => endB (wrB s x fl).1 e ∧ Wd w w' d (N + fl.length) F (wrB s x fl).2 := by
  have c0 := BxA.cell hs 0 _ rfl
  have hcat := fun w' => cat_t w' x hx
  have hcab := fun w' => cat_b w' x hx
  have hT : (fT x).length ≤ maxLen := by unfold fT maxLen; simp; omega
  have hB : (fB x).length ≤ maxLen := by unfold fB maxLen; simp; omega
  have kR := remove_any w d N F s (fT x) h hT (by omega)
  have HX : Hid (wrB s x fl = thn (thn (thn (wr1 s x) fun s => s.append (fT x) fl) fun s => s.sync (fT x)) fun s => s.rename (fT x) (fB x)) := rfl
  have HW1 : Hid (wr1 s x = if (s.remove (fT x)).1 = 120 then (0, (s.remove (fT x)).2) else s.remove (fT x)) := rfl
  have ho1 := remove_ops s (fT x)
  obtain ⟨t, ht⟩ : ∃ t, t = fT x := ⟨_, rfl⟩
  obtain ⟨y, hy⟩ : ∃ y, y = fB x := ⟨_, rfl⟩
  rw [← ht] at hT kR HX HW1 ho1
  rw [← hy] at hB HX
  simp only [← ht] at hcat
  simp only [← hy] at hcab
  obtain ⟨r, hr⟩ : ∃ r, r = wrB s x fl := ⟨_, rfl⟩
  rw [← hr] at HX
  rw [← hr]
  obtain ⟨c1, hc1⟩ : ∃ c, c = (s.remove t).1 := ⟨_, rfl⟩
  obtain ⟨s1, hs1⟩ : ∃ q, q = (s.remove t).2 := ⟨_, rfl⟩
  have hpair : s.remove t = (c1, s1) := by rw [hc1, hs1]
  rw [← hc1, ← hs1] at kR
  rw [← hs1] at ho1
  rw [hpair] at HW1
  have HS : Hid (Sr w p d) := hs
  have HP : Hid (¬ F p) := hp
  have HV : Hid (∀ w', Fr F w w' → Reads w' v fl) := hv
  have HTL : Hid (t.length ≤ maxLen ∧ y.length ≤ maxLen) := ⟨hT, hB⟩
  clear h hs hp hv hT hB ht hy hr hc1 hs1 hpair
  obtain ⟨va, vc, hve, -⟩ := HV.out w (Fr.refl _ _)
  subst hve
  go_enter Try.func47, Try.ntmps47
  go_wp2_with fail
  refine kR.mono ?_
  rintro e w1 ⟨rfl, d1, f1⟩
  have HF1 : Hid (Fr F w w1) := f1
  have HD1 : Hid (Dk w1 d F N s1) := d1
  have c01 := BxA.cell (HS.out.fr f1 HP.out) 0 _ rfl
  have kA := append_any w1 d N F s1 t _ fl d1 HTL.out.1 (fun w' hf => HV.out w' (f1.trans hf fun _ _ h => h)) hN (by omega)
  have ho2 := append_ops s1 t fl
  clear kR d1 f1 c0
  by_cases h120 : c1 = 120
  · subst h120
    simp only [if_true] at HW1
    go_wp2_with fail
    refine kA.mono ?_
    rintro e w2 ⟨rfl, ⟨F2, d2, hF2⟩, f2⟩
    have HF2 : Hid (Fr F w w2) := HF1.out.trans f2 fun _ _ h => h
    have hFF : ∀ i, F2 i → F i ∨ w.heap.size ≤ i := fun i hi => (hF2 i hi).imp id fun h => Nat.le_trans HF1.out.size h
    have HFF : Hid (∀ i, F2 i → F i ∨ w.heap.size ≤ i) := hFF
    obtain ⟨c2, hc2⟩ : ∃ c, c = (s1.append t fl).1 := ⟨_, rfl⟩
    obtain ⟨s2, hs2⟩ : ∃ q, q = (s1.append t fl).2 := ⟨_, rfl⟩
    have hp2 : s1.append t fl = (c2, s2) := by rw [hc2, hs2]
    rw [← hs2] at d2 ho2
    rw [← hc2]
    have HD2 : Hid (Dk w2 d F2 (N + fl.length) s2) := d2
    have HR2 : Hid (s1.append t fl = (c2, s2)) := hp2
    have c02 := BxA.cell (HS.out.fr HF2.out HP.out) 0 _ rfl
    have kS := sync_any w2 d _ F2 s2 t d2 HTL.out.1 (by omega)
    have ho3 := sync_ops s2 t
    clear kA d2 hF2 f2 hFF hc2 hs2 hp2 c01
    by_cases h2 : c2 = 0
    · subst h2
      have kN := need_ok w2
      go_wp2_with fail
      refine kN.mono ?_
      rintro e w2' ⟨rfl, rfl⟩
      clear kN
      go_wp2_with fail
      refine kS.mono ?_
      rintro e w3 ⟨rfl, d3, f3⟩
      have HF3 : Hid (Fr F w w3) := HF2.out.trans f3 fun i hi h => (HFF.out i h).elim id fun q => absurd hi (by omega)
      obtain ⟨c3, hc3⟩ : ∃ c, c = (s2.sync t).1 := ⟨_, rfl⟩
      obtain ⟨s3, hs3⟩ : ∃ q, q = (s2.sync t).2 := ⟨_, rfl⟩
      have hp3 : s2.sync t = (c3, s3) := by rw [hc3, hs3]
      rw [← hs3] at d3 ho3
      rw [← hc3]
      have HD3 : Hid (Dk w3 d F2 (N + fl.length) s3) := d3
      have HR3 : Hid (s2.sync t = (c3, s3)) := hp3
      have c03 := BxA.cell (HS.out.fr HF3.out HP.out) 0 _ rfl
      have kM := rename_any w3 d _ F2 s3 t y d3 HTL.out.1 HTL.out.2 (by omega)
      have hcb := hcab w3
      clear kS d3 f3 hc3 hs3 hp3 c02 HD2
      by_cases h3 : c3 = 0
      · subst h3
        have kN := need_ok w3
        go_wp2_with fail
        refine kN.mono ?_
        rintro e w3' ⟨rfl, rfl⟩
        clear kN
        go_wp2_with fail
        refine kM.mono ?_
        rintro e w4 ⟨rfl, d4, f4⟩
        have HF4 : Hid (Fr F w w4) := HF3.out.trans f4 fun i hi h => (HFF.out i h).elim id fun q => absurd hi (by omega)
        obtain ⟨c4, hc4⟩ : ∃ c, c = (s3.rename t y).1 := ⟨_, rfl⟩
        obtain ⟨s4, hs4⟩ : ∃ q, q = (s3.rename t y).2 := ⟨_, rfl⟩
        have hp4 : s3.rename t y = (c4, s4) := by rw [hc4, hs4]
        rw [← hs4] at d4
        rw [← hc4]
        have HD4 : Hid (Dk w4 d F2 (N + fl.length) s4) := d4
        have HR : Hid (r = (c4, s4)) := by
          apply hide
          rw [HX.out, HW1.out]
          simp only [thn, ne_eq, not_true, if_false]
          rw [HR2.out]
          simp only [not_true, if_false]
          rw [HR3.out]
          simp only [not_true, if_false]
          exact hp4
        clear kM d4 f4 hc4 hs4 hp4 c03 HD3 hcb
        by_cases h4 : c4 = 0
        · subst h4
          have kN := need_ok w4
          go_wp2_with fail
          refine kN.mono ?_
          rintro e w4' ⟨rfl, rfl⟩
          clear kN
          go_wp2_with fail
          go_end0
          rw [HR.out]
          exact ⟨endB_ok rfl, ⟨F2, HD4.out, HFF.out⟩, HF4.out⟩
        · have kN := need_bad w4 c4 h4
          have H4 : Hid (c4 ≠ 0) := h4
          clear h4
          go_wp2_with fail
          refine kN.mono ?_
          rintro e w4' ⟨rfl, rfl⟩
          clear kN
          go_wp2_with fail
          simp only [bodyPost]
          rw [HR.out]
          exact ⟨trivial, endB_bad H4.out rfl, ⟨F2, HD4.out, HFF.out⟩, HF4.out⟩
      · have kN := need_bad w3 c3 h3
        have HR : Hid (r = (c3, s3)) := by
          apply hide
          rw [HX.out, HW1.out]
          simp only [thn, ne_eq, not_true, if_false]
          rw [HR2.out]
          simp only [not_true, if_false]
          rw [HR3.out]
          simp only [h3, not_false_eq_true, if_true]
        have H3 : Hid (c3 ≠ 0) := h3
        clear h3
        go_wp2_with fail
        refine kN.mono ?_
        rintro e w3' ⟨rfl, rfl⟩
        clear kN
        go_wp2_with fail
        simp only [bodyPost]
        rw [HR.out]
        exact ⟨trivial, endB_bad H3.out rfl, ⟨F2, HD3.out, HFF.out⟩, HF3.out⟩
    · have kN := need_bad w2 c2 h2
      have HR : Hid (r = (c2, s2)) := by
        apply hide
        rw [HX.out, HW1.out]
        simp only [thn, ne_eq, not_true, if_false]
        rw [HR2.out]
        simp only [h2, not_false_eq_true, if_true]
      have H2 : Hid (c2 ≠ 0) := h2
      clear h2
      go_wp2_with fail
      refine kN.mono ?_
      rintro e w2' ⟨rfl, rfl⟩
      clear kN
      go_wp2_with fail
      simp only [bodyPost]
      rw [HR.out]
      exact ⟨trivial, endB_bad H2.out rfl, ⟨F2, HD2.out, HFF.out⟩, HF2.out⟩
  · rw [if_neg h120] at HW1
    have h120z : ¬ (c1 : Int) = 120 := by omega
    by_cases h10 : c1 = 0
    · subst h10
      have kN := need_ok w1
      go_wp2_with fail
      refine kN.mono ?_
      rintro e w1' ⟨rfl, rfl⟩
      clear kN
      go_wp2_with fail
      refine kA.mono ?_
      rintro e w2 ⟨rfl, ⟨F2, d2, hF2⟩, f2⟩
      have HF2 : Hid (Fr F w w2) := HF1.out.trans f2 fun _ _ h => h
      have hFF : ∀ i, F2 i → F i ∨ w.heap.size ≤ i := fun i hi => (hF2 i hi).imp id fun h => Nat.le_trans HF1.out.size h
      have HFF : Hid (∀ i, F2 i → F i ∨ w.heap.size ≤ i) := hFF
      obtain ⟨c2, hc2⟩ : ∃ c, c = (s1.append t fl).1 := ⟨_, rfl⟩
      obtain ⟨s2, hs2⟩ : ∃ q, q = (s1.append t fl).2 := ⟨_, rfl⟩
      have hp2 : s1.append t fl = (c2, s2) := by rw [hc2, hs2]
      rw [← hs2] at d2 ho2
      rw [← hc2]
      have HD2 : Hid (Dk w2 d F2 (N + fl.length) s2) := d2
      have HR2 : Hid (s1.append t fl = (c2, s2)) := hp2
      have c02 := BxA.cell (HS.out.fr HF2.out HP.out) 0 _ rfl
      have kS := sync_any w2 d _ F2 s2 t d2 HTL.out.1 (by omega)
      have ho3 := sync_ops s2 t
      clear kA d2 hF2 f2 hFF hc2 hs2 hp2 c01
      by_cases h2 : c2 = 0
      · subst h2
        have kN := need_ok w2
        go_wp2_with fail
        refine kN.mono ?_
        rintro e w2' ⟨rfl, rfl⟩
        clear kN
        go_wp2_with fail
        refine kS.mono ?_
        rintro e w3 ⟨rfl, d3, f3⟩
        have HF3 : Hid (Fr F w w3) := HF2.out.trans f3 fun i hi h => (HFF.out i h).elim id fun q => absurd hi (by omega)
        obtain ⟨c3, hc3⟩ : ∃ c, c = (s2.sync t).1 := ⟨_, rfl⟩
        obtain ⟨s3, hs3⟩ : ∃ q, q = (s2.sync t).2 := ⟨_, rfl⟩
        have hp3 : s2.sync t = (c3, s3) := by rw [hc3, hs3]
        rw [← hs3] at d3 ho3
        rw [← hc3]
        have HD3 : Hid (Dk w3 d F2 (N + fl.length) s3) := d3
        have HR3 : Hid (s2.sync t = (c3, s3)) := hp3
        have c03 := BxA.cell (HS.out.fr HF3.out HP.out) 0 _ rfl
        have kM := rename_any w3 d _ F2 s3 t y d3 HTL.out.1 HTL.out.2 (by omega)
        have hcb := hcab w3
        clear kS d3 f3 hc3 hs3 hp3 c02 HD2
        by_cases h3 : c3 = 0
        · subst h3
          have kN := need_ok w3
          go_wp2_with fail
          refine kN.mono ?_
          rintro e w3' ⟨rfl, rfl⟩
          clear kN
          go_wp2_with fail
          refine kM.mono ?_
          rintro e w4 ⟨rfl, d4, f4⟩
          have HF4 : Hid (Fr F w w4) := HF3.out.trans f4 fun i hi h => (HFF.out i h).elim id fun q => absurd hi (by omega)
          obtain ⟨c4, hc4⟩ : ∃ c, c = (s3.rename t y).1 := ⟨_, rfl⟩
          obtain ⟨s4, hs4⟩ : ∃ q, q = (s3.rename t y).2 := ⟨_, rfl⟩
          have hp4 : s3.rename t y = (c4, s4) := by rw [hc4, hs4]
          rw [← hs4] at d4
          rw [← hc4]
          have HD4 : Hid (Dk w4 d F2 (N + fl.length) s4) := d4
          have HR : Hid (r = (c4, s4)) := by
            apply hide
            rw [HX.out, HW1.out]
            simp only [thn, ne_eq, not_true, if_false]
            rw [HR2.out]
            simp only [not_true, if_false]
            rw [HR3.out]
            simp only [not_true, if_false]
            exact hp4
          clear kM d4 f4 hc4 hs4 hp4 c03 HD3 hcb
          by_cases h4 : c4 = 0
          · subst h4
            have kN := need_ok w4
            go_wp2_with fail
            refine kN.mono ?_
            rintro e w4' ⟨rfl, rfl⟩
            clear kN
            go_wp2_with fail
            go_end0
            rw [HR.out]
            exact ⟨endB_ok rfl, ⟨F2, HD4.out, HFF.out⟩, HF4.out⟩
          · have kN := need_bad w4 c4 h4
            have H4 : Hid (c4 ≠ 0) := h4
            clear h4
            go_wp2_with fail
            refine kN.mono ?_
            rintro e w4' ⟨rfl, rfl⟩
            clear kN
            go_wp2_with fail
            simp only [bodyPost]
            rw [HR.out]
            exact ⟨trivial, endB_bad H4.out rfl, ⟨F2, HD4.out, HFF.out⟩, HF4.out⟩
        · have kN := need_bad w3 c3 h3
          have HR : Hid (r = (c3, s3)) := by
            apply hide
            rw [HX.out, HW1.out]
            simp only [thn, ne_eq, not_true, if_false]
            rw [HR2.out]
            simp only [not_true, if_false]
            rw [HR3.out]
            simp only [h3, not_false_eq_true, if_true]
          have H3 : Hid (c3 ≠ 0) := h3
          clear h3
          go_wp2_with fail
          refine kN.mono ?_
          rintro e w3' ⟨rfl, rfl⟩
          clear kN
          go_wp2_with fail
          simp only [bodyPost]
          rw [HR.out]
          exact ⟨trivial, endB_bad H3.out rfl, ⟨F2, HD3.out, HFF.out⟩, HF3.out⟩
      · have kN := need_bad w2 c2 h2
        have HR : Hid (r = (c2, s2)) := by
          apply hide
          rw [HX.out, HW1.out]
          simp only [thn, ne_eq, not_true, if_false]
          rw [HR2.out]
          simp only [h2, not_false_eq_true, if_true]
        have H2 : Hid (c2 ≠ 0) := h2
        clear h2
        go_wp2_with fail
        refine kN.mono ?_
        rintro e w2' ⟨rfl, rfl⟩
        clear kN
        go_wp2_with fail
        simp only [bodyPost]
        rw [HR.out]
        exact ⟨trivial, endB_bad H2.out rfl, ⟨F2, HD2.out, HFF.out⟩, HF2.out⟩
    · have kN := need_bad w1 c1 h10
      have HR : Hid (r = (c1, s1)) := by
        apply hide
        rw [HX.out, HW1.out]
        simp only [thn, ne_eq, h10, not_false_eq_true, if_true]
      have H1 : Hid (c1 ≠ 0) := h10
      clear h10
      go_wp2_with fail
      refine kN.mono ?_
      rintro e w1' ⟨rfl, rfl⟩
      clear kN
      go_wp2_with fail
      simp only [bodyPost]
      rw [HR.out]
      exact ⟨trivial, endB_bad H1.out rfl, ⟨F, HD1.out.more (by omega), fun _ h => .inl h⟩, HF1.out⟩
end Go.Proofs.Ythegdhbmfojdaaa
