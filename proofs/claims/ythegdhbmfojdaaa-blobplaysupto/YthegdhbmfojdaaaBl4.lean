/- Contracts of package blob: names, what is refused, Get, Delete. -/
import Derived.Test.YthegdhbmfojdaaaFn12
import Derived.Test.YthegdhbmfojdaaaWUnframe
import Derived.Laws.Concat
import Derived.Defers
import Derived.Recover
import Derived.Laws.Pointers
namespace Go.Proofs.Ythegdhbmfojdaaa
open Go.RowKit Go.Maps Go.Sort
set_option linter.unusedVariables false

def bNm (s : Str) : Bool := !(decide (s.length < 1) || decide (62 < s.length)) && s.all nmB
theorem bNm_no {t : Str} {i : Nat} (hi : i < t.length) (h : nmB (t.getD i 0) = false) : bNm t = false := by
  unfold bNm
  have : t.all nmB = false := by
    rw [List.all_eq_false]
    refine ⟨t[i], List.getElem_mem hi, ?_⟩
    rw [show t[i] = t.getD i 0 by simp [hi], h]
    simp
  rw [this, Bool.and_false]
theorem bNm_yes {t : Str} (h1 : ¬ t.length < 1) (h2 : ¬ 62 < t.length) (h : ∀ i, i < t.length → nmB (t.getD i 0) = true) : bNm t = true := by
  unfold bNm
  have : t.all nmB = true := by
    rw [List.all_eq_true]
    intro c hc
    obtain ⟨i, hi, rfl⟩ := List.getElem_of_mem hc
    have := h i hi
    rwa [show t.getD i 0 = t[i] by simp [hi]] at this
  rw [this]
  simp [h1, h2]
set_option maxHeartbeats 800000 in
theorem bname_any (w : World) (t : Str) (ht : t.length ≤ maxLen) : Calls Try.prog 59 #[.string ⟨t.toArray⟩] w fun e w' => e = .returned (.bool (bNm t)) ∧ Below w.heap.size w w' := by
  unfold maxLen at ht
  have hsz := str_size t
  by_cases h1 : t.length < 1
  · have h1z : (t.length : Int) < 1 := by omega
    have HE : Hid (bNm t = false) := by apply hide; unfold bNm; simp [h1]
    go_enter Try.func59, Try.ntmps59
    go_wp2_with fail
    go_ret
    exact ⟨by rw [HE.out]; rfl, Below.refl _ _⟩
  have h1z : ¬ (t.length : Int) < 1 := by omega
  by_cases h2 : 62 < t.length
  · have h2z : (62 : Int) < (t.length : Int) := by omega
    have HE : Hid (bNm t = false) := by apply hide; unfold bNm; simp [h2]
    go_enter Try.func59, Try.ntmps59
    go_wp2_with fail
    go_ret
    exact ⟨by rw [HE.out]; rfl, Below.refl _ _⟩
  have h2z : ¬ (62 : Int) < (t.length : Int) := by omega
  have hcv := Lib.run_convert_string_bytes (P := Try.prog) w 9 33 5 ⟨t.toArray⟩ Try.underlying9 Try.underlying33 Try.underlying5
  rw [hsz] at hcv
  have hcell : ∀ j, j < t.length → (Lib.bytesWorld w 5 ⟨t.toArray⟩).cell? ⟨w.heap.size, j, none⟩ = some (.int .u8 ((t.getD j 0).toNat : Int)) := fun j hj => by
    have := Lib.bytesWorld_cell w 5 ⟨t.toArray⟩ j (by rw [hsz]; exact hj)
    simpa using this
  obtain ⟨W, hW⟩ : ∃ W, W = Lib.bytesWorld w 5 ⟨t.toArray⟩ := ⟨_, rfl⟩
  have HB : Hid (Below w.heap.size w W) := by apply hide; rw [hW]; exact bytes_below _ _ _
  rw [← hW] at hcv hcell
  obtain ⟨cp, hcp⟩ : ∃ cp, cp = grownCap w t.length 0 5 := ⟨_, rfl⟩
  rw [← hcp] at hcv
  have HC : Aside (∀ j, j < t.length → W.cell? ⟨w.heap.size, j, none⟩ = some (.int .u8 ((t.getD j 0).toNat : Int))) := hcell
  clear hcell hW hcp
  go_enter Try.func59, Try.ntmps59
  go_wp2_with fail
  go_loop [16] (fun i => ∃ k : Nat, k ≤ t.length ∧ i = .int .i64 k ∧ Hid (∀ i, i < k → nmB (t.getD i 0) = true)) (fun i => t.length - (intOf i).toNat)
  case atStart => exact ⟨0, by omega, rfl, fun i hi => by omega⟩
  case round =>
    obtain ⟨k, hk, rfl, HA⟩ := hrel
    by_cases hlt : k < t.length
    · have hltz : (k : Int) < (t.length : Int) := by omega
      have hck := HC.out k hlt
      obtain ⟨z, hz⟩ : ∃ z : Nat, z = (t.getD k 0).toNat := ⟨_, rfl⟩
      rw [← hz] at hck
      have HZ : Hid (z = (t.getD k 0).toNat) := hz
      have hz8 : z < 256 := by rw [hz]; exact (t.getD k 0).toNat_lt
      clear hz
      by_cases ha : z < 33
      · have haz : (z : Int) < 33 := by omega
        go_wp2_with fail
        go_ret
        exact ⟨by rw [bNm_no hlt (by unfold nmB; rw [← HZ.out]; simp [ha])]; rfl, HB.out⟩
      · have haz : ¬ (z : Int) < 33 := by omega
        by_cases hb : 126 < z
        · have hbz : (126 : Int) < (z : Int) := by omega
          go_wp2_with fail
          go_ret
          exact ⟨by rw [bNm_no hlt (by unfold nmB; rw [← HZ.out]; simp [hb])]; rfl, HB.out⟩
        · have hbz : ¬ (126 : Int) < (z : Int) := by omega
          go_wp2_with fail
          go_round
          case rel =>
            refine ⟨k + 1, by omega, by go_num, fun i hi => ?_⟩
            by_cases hik : i = k
            · subst hik; unfold nmB; rw [← HZ.out]; simp [ha, hb]
            · exact HA.out i (by omega)
          case measure => simp [intOf]; omega
    · have hltz : ¬ (k : Int) < (t.length : Int) := by omega
      obtain rfl : k = t.length := by omega
      go_wp2_with fail
      go_ret
      exact ⟨by rw [bNm_yes h1 h2 HA.out]; rfl, HB.out⟩

/-- A store behind a pointer to the block p, on the disk at d. -/
def Sr (w : World) (p d : Nat) : Prop := BxA w p 71 #[.pointer (some ⟨d, 0, none⟩)]
theorem Sr.below {w w' : World} {p d : Nat} (h : Sr w p d) (hb : Below w.heap.size w w') : Sr w' p d := by
  unfold Sr BxA at h ⊢
  rw [hb.block _ (BxA.lt h)]
  exact h
theorem Sr.fr {w w' : World} {p d : Nat} {F : Nat → Prop} (h : Sr w p d) (hf : Fr F w w') (hp : ¬ F p) : Sr w' p d := by
  unfold Sr BxA at h ⊢
  rw [hf.block _ (BxA.lt h) hp]
  exact h
def rfB (s : St) (x : Str) : Nat := if s.off then 122 else if bNm x then 0 else 1
set_option maxHeartbeats 800000 in
theorem refusesB_any (w : World) (p d N : Nat) (F : Nat → Prop) (s : St) (x : Str) (h : Dk w d F N s) (hs : Sr w p d) (hx : x.length ≤ maxLen) :
    Calls Try.prog 44 #[.pointer (some ⟨p, 0, none⟩), .string ⟨x.toArray⟩] w fun e w' => e = .returned (.int .i64 (rfB s x : Nat)) ∧ Below w.heap.size w w' := by
  have kO := off_any w d N F s h
  have kN := bname_any w x hx
  have c0 := BxA.cell hs 0 _ rfl
  unfold rfB
  clear h hs hx
  cases ho : s.off with
  | true =>
    rw [ho] at kO
    go_enter Try.func44, Try.ntmps44
    go_wp2_with fail
    refine kO.mono ?_
    rintro e w1 ⟨rfl, rfl⟩
    go_wp2_with fail
    go_ret
    exact ⟨rfl, Below.refl _ _⟩
  | false =>
    rw [ho] at kO
    go_enter Try.func44, Try.ntmps44
    go_wp2_with fail
    refine kO.mono ?_
    rintro e w1 ⟨rfl, rfl⟩
    clear kO
    go_wp2_with fail
    refine kN.mono ?_
    rintro e w2 ⟨rfl, b2⟩
    have HB2 : Hid _ := b2
    clear kN b2
    cases hn : bNm x with
    | true =>
      go_wp2_with fail
      go_ret
      exact ⟨rfl, HB2.out⟩
    | false =>
      go_wp2_with fail
      go_ret
      exact ⟨rfl, HB2.out⟩
end Go.Proofs.Ythegdhbmfojdaaa

namespace Go.Proofs.Ythegdhbmfojdaaa
open Go.RowKit Go.Maps Go.Sort
set_option linter.unusedVariables false

/-- A blob's file, and its draft. -/
def fB (x : Str) : Str := 98 :: 46 :: x
def fT (x : Str) : Str := 116 :: 46 :: x
theorem bNm_len {x : Str} (h : bNm x = true) : x.length ≤ 62 := by
  unfold bNm at h
  rw [Bool.and_eq_true] at h
  have := h.1
  simp at this
  omega
theorem rfB_zero {s : St} {x : Str} (h : rfB s x = 0) : s.off = false ∧ bNm x = true := by
  unfold rfB at h
  cases ho : s.off with
  | true => rw [ho] at h; simp at h
  | false =>
    rw [ho] at h
    cases hb : bNm x with
    | true => exact ⟨rfl, rfl⟩
    | false => rw [hb] at h; simp at h
theorem cat_b (w : World) (x : Str) (h : x.length ≤ 62) : (Op.stringOp .add ⟨#[98, 46]⟩ ⟨x.toArray⟩).run Try.prog w = .ok (.string ⟨(fB x).toArray⟩) w :=
  run_string_add_lists (P := Try.prog) w [98, 46] x (by simp) (by omega)
theorem cat_t (w : World) (x : Str) (h : x.length ≤ 62) : (Op.stringOp .add ⟨#[116, 46]⟩ ⟨x.toArray⟩).run Try.prog w = .ok (.string ⟨(fT x).toArray⟩) w :=
  run_string_add_lists (P := Try.prog) w [116, 46] x (by simp) (by omega)
/-- What Get answers. -/
def bget (s : St) (x : Str) : Nat × Str :=
  if rfB s x ≠ 0 then (rfB s x, []) else if rfF s (fB x) [] ≠ 0 then (rfF s (fB x) [], []) else if Wi.unf (rdC s (fB x)) = 0 then (0, (rdC s (fB x)).drop 8) else (11, [])
theorem code_nz {n : Nat} (h : n ≠ 0) : ((n : Int) == 0) = false := by simpa using h
set_option maxRecDepth 100000 in
set_option maxHeartbeats 1600000 in
theorem getB_any (w : World) (p d N : Nat) (F : Nat → Prop) (s : St) (x : Str) (h : Dk w d F N s) (hs : Sr w p d) (hx : x.length ≤ maxLen) (hN : N ≤ 140737488355328) :
    Calls Try.prog 23 #[.pointer (some ⟨p, 0, none⟩), .string ⟨x.toArray⟩] w fun e w' => ∃ v, e = .returned (.tuple #[v, .int .i64 ((bget s x).1 : Nat)]) ∧ Owns w' w.heap.size v (bget s x).2 ∧ Below w.heap.size w w' := by
  have kR := refusesB_any w p d N F s x h hs hx
  obtain ⟨c1, hc1⟩ : ∃ c, c = rfB s x := ⟨_, rfl⟩
  rw [← hc1] at kR
  have HC1 : Hid (c1 = rfB s x) := hc1
  have HD : Hid (Dk w d F N s) := h
  have HS : Hid (Sr w p d) := hs
  clear h hs hc1
  by_cases h0 : c1 = 0
  · subst h0
    obtain ⟨hoff, hbn⟩ := rfB_zero HC1.out.symm
    have hxl := bNm_len hbn
    go_enter Try.func23, Try.ntmps23
    go_wp2_with fail
    refine kR.mono ?_
    rintro e w1 ⟨rfl, b1⟩
    have c0 := BxA.cell (HS.out.below b1) 0 _ rfl
    have hcat := cat_b w1 x hxl
    have hfl : (fB x).length ≤ maxLen := by unfold fB maxLen; simp; omega
    have kD := read_any w1 d N F s (fB x) (HD.out.below b1) hfl hN
    have HB1 : Hid (Below w.heap.size w w1) := b1
    obtain ⟨c2, hc2⟩ : ∃ c, c = rfF s (fB x) [] := ⟨_, rfl⟩
    rw [← hc2] at kD
    have HC2 : Hid (c2 = rfF s (fB x) []) := hc2
    obtain ⟨l, hl⟩ : ∃ l, l = rdC s (fB x) := ⟨_, rfl⟩
    rw [← hl] at kD
    have HL : Hid (l = rdC s (fB x)) := hl
    obtain ⟨y, hy⟩ : ∃ y, y = fB x := ⟨_, rfl⟩
    rw [← hy] at kD hcat
    clear kR b1 hc2 hl hy hfl hoff hbn
    go_wp2_with fail
    refine kD.mono ?_
    rintro e w2 ⟨v2, rfl, o2, b2⟩
    have HO2 : Hid (Owns w2 w1.heap.size v2 l) := o2
    have HB2 : Hid (Below w.heap.size w w2) := HB1.out.trans (b2.mono HB1.out.size)
    obtain ⟨va, vc, hv2, -⟩ := o2.reads
    subst hv2
    clear kD o2 b2
    by_cases h2 : c2 = 0
    · subst h2
      by_cases hu : Wi.unf l = 0
      · have kU := Wi.unframe_ok w2 _ l HO2.out.reads hu
        go_wp2_with fail
        refine kU.mono ?_
        rintro e w3 ⟨v3, rfl, o3, b3⟩
        have HO3 : Hid (Owns w3 w2.heap.size v3 (l.drop 8)) := o3
        have HB3 : Hid (Below w.heap.size w w3) := HB2.out.trans (b3.mono HB2.out.size)
        clear kU o3 b3
        go_wp2_with fail
        go_ret2
        have e1 : bget s x = (0, l.drop 8) := by
          unfold bget
          rw [← HC1.out, ← HC2.out, ← HL.out, hu]
          rfl
        rw [e1]
        exact ⟨_, rfl, HO3.out.mono HB2.out.size, HB3.out⟩
      · have hl2 : l.length ≤ 2 ^ 63 - 1 := by
          obtain ⟨a, c, e, h1, h3, -⟩ := HO2.out.reads
          unfold maxLen at h3
          omega
        have kU := Wi.unframe_bad w2 _ l HO2.out.reads hl2 hu
        have hnz : ¬ ((Wi.unf l : Nat) : Int) = 0 := by omega
        obtain ⟨c3, hc3⟩ : ∃ c, c = Wi.unf l := ⟨_, rfl⟩
        rw [← hc3] at kU hnz
        have HU : Hid (¬ Wi.unf l = 0) := hu
        clear hu hc3 hl2
        go_wp2_with fail
        refine kU.mono ?_
        rintro e w3 ⟨rfl, b3⟩
        have HB3 : Hid (Below w.heap.size w w3) := HB2.out.trans (b3.mono HB2.out.size)
        clear kU b3
        go_wp2_with fail
        go_ret2
        have e1 : bget s x = (11, []) := by
          unfold bget
          rw [← HC1.out, ← HC2.out, ← HL.out, if_neg (by simp), if_neg (by simp), if_neg HU.out]
        rw [e1]
        exact ⟨_, rfl, ⟨rfl, .inl ⟨rfl, rfl⟩⟩, HB3.out⟩
    · have h2z : ¬ (c2 : Int) = 0 := by omega
      go_wp2_with fail
      go_ret2
      have e1 : bget s x = (c2, []) := by
        unfold bget
        rw [← HC1.out, ← HC2.out, if_neg (by simp), if_pos h2]
      rw [e1]
      exact ⟨_, rfl, ⟨rfl, .inl ⟨rfl, rfl⟩⟩, HB2.out⟩
  · have h0z : ¬ (c1 : Int) = 0 := by omega
    go_enter Try.func23, Try.ntmps23
    go_wp2_with fail
    refine kR.mono ?_
    rintro e w1 ⟨rfl, b1⟩
    have HB1 : Hid _ := b1
    clear kR b1
    go_wp2_with fail
    go_ret2
    have e1 : bget s x = (c1, []) := by
      unfold bget
      rw [← HC1.out, if_pos h0]
    rw [e1]
    exact ⟨_, rfl, ⟨rfl, .inl ⟨rfl, rfl⟩⟩, HB1.out⟩
/-- What Delete answers, and leaves. -/
def bdel (s : St) (x : Str) : Nat × St := if rfB s x ≠ 0 then (rfB s x, s) else s.remove (fB x)
set_option maxRecDepth 100000 in
set_option maxHeartbeats 1600000 in
theorem delB_any (w : World) (p d N : Nat) (F : Nat → Prop) (s : St) (x : Str) (h : Dk w d F N s) (hs : Sr w p d) (hx : x.length ≤ maxLen) (hop : s.ops < 1000000) :
    Calls Try.prog 21 #[.pointer (some ⟨p, 0, none⟩), .string ⟨x.toArray⟩] w fun e w' => e = .returned (.int .i64 ((bdel s x).1 : Nat)) ∧ Dk w' d F N (bdel s x).2 ∧ Fr F w w' := by
  have kR := refusesB_any w p d N F s x h hs hx
  obtain ⟨c1, hc1⟩ : ∃ c, c = rfB s x := ⟨_, rfl⟩
  rw [← hc1] at kR
  have HC1 : Hid (c1 = rfB s x) := hc1
  have HD : Hid (Dk w d F N s) := h
  have HS : Hid (Sr w p d) := hs
  clear h hs hc1
  by_cases h0 : c1 = 0
  · subst h0
    obtain ⟨hoff, hbn⟩ := rfB_zero HC1.out.symm
    have hxl := bNm_len hbn
    go_enter Try.func21, Try.ntmps21
    go_wp2_with fail
    refine kR.mono ?_
    rintro e w1 ⟨rfl, b1⟩
    have c0 := BxA.cell (HS.out.below b1) 0 _ rfl
    have hcat := cat_b w1 x hxl
    have hfl : (fB x).length ≤ maxLen := by unfold fB maxLen; simp; omega
    have kD := remove_any w1 d N F s (fB x) (HD.out.below b1) hfl hop
    have HB1 : Hid (Below w.heap.size w w1) := b1
    obtain ⟨c2, hc2⟩ : ∃ c, c = (s.remove (fB x)).1 := ⟨_, rfl⟩
    rw [← hc2] at kD
    have HC2 : Hid (c2 = (s.remove (fB x)).1) := hc2
    obtain ⟨s2, hs2⟩ : ∃ s2, s2 = (s.remove (fB x)).2 := ⟨_, rfl⟩
    rw [← hs2] at kD
    have HS2 : Hid (s2 = (s.remove (fB x)).2) := hs2
    obtain ⟨y, hy⟩ : ∃ y, y = fB x := ⟨_, rfl⟩
    rw [← hy] at kD hcat
    clear kR b1 hc2 hs2 hy hfl hoff hbn
    go_wp2_with fail
    refine kD.mono ?_
    rintro e w2 ⟨rfl, d2, f2⟩
    have HD2 : Hid (Dk w2 d F N s2) := d2
    have HF2 : Hid (Fr F w w2) := (Fr.of_below HB1.out).trans f2 fun _ _ h => h
    clear kD d2 f2
    go_wp2_with fail
    go_ret
    have e1 : bdel s x = s.remove (fB x) := by
      unfold bdel
      rw [← HC1.out, if_neg (by simp)]
    rw [e1, ← HC2.out, ← HS2.out]
    exact ⟨rfl, HD2.out, HF2.out⟩
  · have h0z : ¬ (c1 : Int) = 0 := by omega
    go_enter Try.func21, Try.ntmps21
    go_wp2_with fail
    refine kR.mono ?_
    rintro e w1 ⟨rfl, b1⟩
    have HB1 : Hid _ := b1
    clear kR b1
    go_wp2_with fail
    go_ret
    have e1 : bdel s x = (c1, s) := by
      unfold bdel
      rw [← HC1.out, if_pos h0]
    rw [e1]
    exact ⟨rfl, HD.out.below HB1.out, Fr.of_below HB1.out⟩
end Go.Proofs.Ythegdhbmfojdaaa

namespace Go.Proofs.Ythegdhbmfojdaaa
open Go.RowKit Go.Maps Go.Sort
set_option linter.unusedVariables false

/-- What is thrown. -/
def stopV (c : Nat) : Value := .iface 101 (.agg #[.int .i64 (c : Int)])
theorem need_ok (w : World) : Calls Try.prog 43 #[.int .i64 0] w fun e w' => e = .returned (.tuple #[]) ∧ w' = w := by
  go_enter Try.func43, Try.ntmps43
  go_wp2_with fail
  go_end0
  exact ⟨rfl, rfl⟩
theorem need_bad (w : World) (c : Nat) (h : c ≠ 0) : Calls Try.prog 43 #[.int .i64 (c : Int)] w fun e w' => e = .panicked [{ v := stopV c, recovered := false }] ∧ w' = w := by
  have hz : ¬ (c : Int) = 0 := by omega
  go_enter Try.func43, Try.ntmps43
  go_wp2_with fail
  simp [bodyPost, stopV]
theorem is_stop (v : Value) (w : World) : (Instr.typeAssert (.iface 101 v) 20 101 false).run Try.prog w = .ok v w := by kernel_rfl
theorem stop_code (v : Value) (w : World) : (Instr.field 101 (.agg #[v]) 0).run Try.prog w = .ok v w := by kernel_rfl
set_option maxRecDepth 100000 in
theorem codeOf_any (w : World) (c : Nat) : Calls Try.prog 42 #[stopV c] w fun e w' => e = .returned (.int .i64 (c : Int)) ∧ w' = w := by
  have hs := fun v => is_stop v w
  have hf := stop_code (.int .i64 (c : Int)) w
  unfold stopV
  go_enter Try.func42, Try.ntmps42
  go_wp2_with fail
  go_ret
  exact ⟨rfl, rfl⟩
/-- The deferred function, where something was thrown. -/
theorem catch_thrown (p : Addr) (x : Value) (c : Nat) (older : List PanicEntry) (w : World) (hc : w.cell? p = some x) (hz : w.frozen? p = false) :
    CallsD Try.prog 41 #[.pointer (some p)] (.panicking ({ v := stopV c, recovered := false } :: older)) w fun e u' w' =>
      e = .returned (.tuple #[]) ∧ u' = .panicking ({ v := stopV c, recovered := true } :: older) ∧ w' = w.setCell p (.int .i64 (c : Int)) := by
  have kC := codeOf_any w c
  refine callsD_of_wpS Try.func41 rfl fun c₀ cs hu => ?_
  apply wpS_seq
  apply wpS_region
  simp [wpOpsS, go_sem, recoverD, hu, Try.ntmps41, Exit.thenS]
  refine wpS_of_wp ?_
  unfold stopV at kC ⊢
  go_wp2_with fail
  refine kC.mono ?_
  rintro e w1 ⟨rfl, rfl⟩
  go_wp2_with fail
  cases c₀
  simp_all [bodyPostS, results, Try.results41]
/-- And where nothing was. -/
theorem catch_idle (p : Addr) (w : World) :
    CallsD Try.prog 41 #[.pointer (some p)] .returning w fun e u' w' => e = .returned (.tuple #[]) ∧ u' = .returning ∧ w' = w := by
  refine callsD_of_wpS Try.func41 rfl fun c₀ cs hu => ?_
  apply wpS_seq
  apply wpS_region
  simp [wpOpsS, go_sem, recoverD, hu, Try.ntmps41, Exit.thenS]
  refine wpS_of_wp ?_
  go_wp2_with fail
  cases c₀
  simp_all [bodyPostS, results, Try.results41]
end Go.Proofs.Ythegdhbmfojdaaa

namespace Go.Proofs.Ythegdhbmfojdaaa
open Go.RowKit Go.Maps Go.Sort
set_option linter.unusedVariables false

set_option maxRecDepth 100000 in
theorem equal_any (w : World) (a b : Value) (l m : Str) (ha : Reads w a l) (hb : Reads w b m) : Calls Try.prog 77 #[a, b] w fun e w' => e = .returned (.bool (decide (l = m))) ∧ Below w.heap.size w w' := by
  have h1 := conv_string w a l ha
  have h2 := conv_string w b m hb
  by_cases he : l = m
  · have he2 : (l == m) = true := by simpa using he
    have HE : Hid (l = m) := he
    clear he
    go_enter Try.func77, Try.ntmps77
    go_wp2_with fail
    go_ret
    exact ⟨by rw [decide_eq_true HE.out]; simp [HE.out], Below.refl _ _⟩
  · have he2 : (l == m) = false := by simpa using he
    have HE : Hid (¬ l = m) := he
    clear he
    go_enter Try.func77, Try.ntmps77
    go_wp2_with fail
    go_ret
    exact ⟨by rw [decide_eq_false HE.out]; simp, Below.refl _ _⟩
/-- Is the blob there, with these bytes? None: it is there with others. -/
def hol (s : St) (x l : Str) : Option Bool := if (bget s x).1 = 120 then some false else if (bget s x).1 = 0 ∧ (bget s x).2 = l then some true else none
set_option maxRecDepth 100000 in
set_option maxHeartbeats 1600000 in
theorem holds_any (w : World) (p d N : Nat) (F : Nat → Prop) (s : St) (x l : Str) (v : Value) (h : Dk w d F N s) (hs : Sr w p d) (hx : x.length ≤ maxLen) (hN : N ≤ 140737488355328) (hv : Reads w v l) :
    Calls Try.prog 46 #[.pointer (some ⟨p, 0, none⟩), .string ⟨x.toArray⟩, v] w fun e w' => (match hol s x l with | some b => e = .returned (.bool b) | none => e = .panicked [{ v := stopV 121, recovered := false }]) ∧ Below w.heap.size w w' := by
  have kG := getB_any w p d N F s x h hs hx hN
  unfold hol
  obtain ⟨c, hc⟩ : ∃ c, c = (bget s x).1 := ⟨_, rfl⟩
  obtain ⟨m, hm⟩ : ∃ m, m = (bget s x).2 := ⟨_, rfl⟩
  rw [← hc, ← hm]
  rw [← hc, ← hm] at kG
  have HV : Hid (Reads w v l) := hv
  clear h hs hx hc hm hv
  by_cases h1 : c = 120
  · subst h1
    go_enter Try.func46, Try.ntmps46
    go_wp2_with fail
    refine kG.mono ?_
    rintro e w1 ⟨u, rfl, o1, b1⟩
    have HB : Hid _ := b1
    clear kG o1 b1
    go_wp2_with fail
    go_ret
    exact ⟨rfl, HB.out⟩
  · have h1z : ¬ (c : Int) = 120 := by omega
    rw [if_neg h1]
    by_cases h2 : c = 0
    · subst h2
      by_cases h3 : m = l
      · rw [if_pos ⟨rfl, h3⟩]
        go_enter Try.func46, Try.ntmps46
        go_wp2_with fail
        refine kG.mono ?_
        rintro e w1 ⟨u, rfl, o1, b1⟩
        have kE := equal_any w1 u v m l o1.reads (HV.out.below b1)
        rw [decide_eq_true h3] at kE
        have HB : Hid (Below w.heap.size w w1) := b1
        clear kG o1 b1
        go_wp2_with fail
        refine kE.mono ?_
        rintro e w2 ⟨rfl, b2⟩
        have HB2 : Hid (Below w.heap.size w w2) := HB.out.trans (b2.mono HB.out.size)
        clear kE b2
        go_wp2_with fail
        go_ret
        exact ⟨rfl, HB2.out⟩
      · rw [if_neg (fun h => h3 h.2)]
        go_enter Try.func46, Try.ntmps46
        go_wp2_with fail
        refine kG.mono ?_
        rintro e w1 ⟨u, rfl, o1, b1⟩
        have kE := equal_any w1 u v m l o1.reads (HV.out.below b1)
        rw [decide_eq_false h3] at kE
        have HB : Hid (Below w.heap.size w w1) := b1
        clear kG o1 b1 h3
        go_wp2_with fail
        refine kE.mono ?_
        rintro e w2 ⟨rfl, b2⟩
        have HB2 : Hid (Below w.heap.size w w2) := HB.out.trans (b2.mono HB.out.size)
        clear kE b2
        go_wp2_with fail
        simp only [bodyPost]
        exact ⟨trivial, rfl, HB2.out⟩
    · have h2z : ¬ (c : Int) = 0 := by omega
      rw [if_neg (fun h => h2 h.1)]
      go_enter Try.func46, Try.ntmps46
      go_wp2_with fail
      refine kG.mono ?_
      rintro e w1 ⟨u, rfl, o1, b1⟩
      have HB : Hid (Below w.heap.size w w1) := b1
      clear kG o1 b1
      go_wp2_with fail
      simp only [bodyPost]
      exact ⟨trivial, rfl, HB.out⟩
end Go.Proofs.Ythegdhbmfojdaaa
