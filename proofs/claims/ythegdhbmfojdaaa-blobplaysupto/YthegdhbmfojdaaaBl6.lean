/- Contracts of package blob: Put. -/
import Derived.Test.YthegdhbmfojdaaaBl5
namespace Go.Proofs.Ythegdhbmfojdaaa
open Go.RowKit Go.Maps Go.Sort
set_option linter.unusedVariables false

def bput (s : St) (x l : Str) : Nat × St :=
  if rfB s x ≠ 0 then (rfB s x, s) else if 1048576 < l.length then (1, s) else
  match hol s x l with
  | some true => (0, s)
  | none => (121, s)
  | some false => wrB s x (Wi.framed l)
theorem framed_len (l : Str) : (Wi.framed l).length = l.length + 8 := by unfold Wi.framed; simp [Wi.Four.le4_length]; omega
theorem Dk.lt {w : World} {d N : Nat} {F : Nat → Prop} {s : St} (h : Dk w d F N s) : ∀ i, F i → i < w.heap.size := by
  obtain ⟨mo, Z, hz⟩ := h
  exact hz.lt
/-- The result's own cell is laid behind it all. -/
theorem Wd.cell {w W0 w1 : World} {d N M : Nat} {F : Nat → Prop} {s : St} (b0 : Below w.heap.size w W0) (h0 : w.heap.size < W0.heap.size) (k : Wd W0 w1 d N F s) (hF : ∀ i, F i → i < w.heap.size) (u : Value) (hM : N ≤ M) : Wd w (w1.setCell ⟨w.heap.size, 0, none⟩ u) d M F s := by
  obtain ⟨⟨F', dk, hF'⟩, fr⟩ := k
  have g := grown_setCell (w := w1) (R := w.heap.size) (j := 0) (u := u)
  have s1 := fr.size
  have s0 := b0.size
  refine ⟨⟨F', (dk.more hM).other (Fr.of_grown (F := fun i => i = w.heap.size) g fun j hj => .inl (by cases hj; rfl)) fun i h1 h2 => ?_, fun i hi => (hF' i hi).imp id fun h => by omega⟩, ⟨g.os.trans (fr.os.trans b0.os), g.tape.trans (fr.tape.trans b0.tape), g.output.trans (fr.output.trans b0.output), Nat.le_trans (Nat.le_trans s0 s1) g.size, fun i hi hn => ?_⟩⟩
  · rcases hF' i h1 with h | h
    · have := hF i h; omega
    · omega
  · exact (g.block i (by omega) (fun e => by cases e; omega)).trans ((fr.block i (by omega) hn).trans (b0.block i hi))
theorem below_set {w w2 : World} {n y : Nat} {u : Value} (h : Below n w w2) (hy : n ≤ y) : Below n w (w2.setCell ⟨y, 0, none⟩ u) := by
  have g := grown_setCell (w := w2) (R := y) (j := 0) (u := u)
  have hs := h.size
  exact ⟨g.os.trans h.os, g.tape.trans h.tape, g.output.trans h.output, Nat.le_trans hs g.size, fun i hi => by
    by_cases hl : i < w2.heap.size
    · exact (g.block i hl (fun e => by cases e; omega)).trans (h.block i hi)
    · have e1 : w2.heap[i]? = w.heap[i]? := h.block i hi
      rw [← e1, Array.getElem?_eq_none (by simp; omega), Array.getElem?_eq_none (by omega)]⟩
theorem box_at {w W0 w1 : World} {u : Value} {F : Nat → Prop} (h : BxA W0 w.heap.size 29 #[u]) (f : Fr F W0 w1) (hF : ∀ i, F i → i < w.heap.size) : BxA w1 w.heap.size 29 #[u] := by
  unfold BxA at h ⊢
  rw [f.block _ (BxA.lt h) fun hf => by have := hF _ hf; omega]
  exact h
theorem cell_blk {w w' : World} {a : Addr} (h : w'.heap[a.block]? = w.heap[a.block]?) : w'.cell? a = w.cell? a := by
  unfold World.cell?
  rw [h]
theorem Reads.fr {F : Nat → Prop} {w w' : World} {u : Value} {b : Str} (h : Reads w u b) (hF : ∀ ad n c, u = .slice (some ad) n c → ¬ F ad.block) (hf : Fr F w w') : Reads w' u b := by
  obtain ⟨ao, cap, rfl, h1, h2, h3, h4⟩ := h
  refine ⟨ao, cap, rfl, h1, h2, h3, fun ad ha j u hj => ?_⟩
  have hc := h4 ad ha j u hj
  have hb : (ad.add j).block = ad.block := by simp only [Addr.add]; split <;> rfl
  rw [cell_blk (hf.block _ (World.block_lt_of_cell? _ _ hc) (by rw [hb]; exact hF ad _ _ (by rw [ha]))), hc]
set_option maxRecDepth 100000 in
set_option maxHeartbeats 3200000 in
theorem putB_any (w : World) (p d N : Nat) (F : Nat → Prop) (s : St) (x l : Str) (v : Value) (h : Dk w d F N s) (hs : Sr w p d) (hp : ¬ F p) (hx : x.length ≤ maxLen) (hv : ∀ w', Fr F w w' → Reads w' v l) (hN : N + 1048584 ≤ 140737488355328) (hop : s.ops < 999990) :
    Calls Try.prog 19 #[.pointer (some ⟨p, 0, none⟩), .string ⟨x.toArray⟩, v] w fun e w' => e = .returned (.int .i64 ((bput s x l).1 : Nat)) ∧ Wd w w' d (N + 1048584) F (bput s x l).2 := by
  have hmf : ∀ (fn : Fn) (first cap : Array Value) (w : World), (Instr.makeFunc fn first cap).run Try.prog w = .ok (.func fn first cap) w := fun _ _ _ _ => rfl
  obtain ⟨W0, hW0⟩ : ∃ W, W = w.alloc (.cells #[.int .i64 0] 29) := ⟨_, rfl⟩
  have b0 : Below w.heap.size w W0 := by rw [hW0]; exact (Below.refl _ _).alloc (Nat.le_refl _) _
  have hbx : BxA W0 w.heap.size 29 #[.int .i64 0] := by rw [hW0]; exact BxA.new _ _ _
  have kR := refusesB_any W0 p d N F s x (h.below b0) (hs.below b0) hx
  obtain ⟨c1, hc1⟩ : ∃ c, c = rfB s x := ⟨_, rfl⟩
  rw [← hc1] at kR
  obtain ⟨r, hr⟩ : ∃ r, r = bput s x l := ⟨_, rfl⟩
  rw [← hr]
  have HR : Hid (r = bput s x l) := hr
  have HC1 : Hid (c1 = rfB s x) := hc1
  have HD : Hid (Dk w d F N s) := h
  have HS : Hid (Sr w p d) := hs
  have HP : Hid (¬ F p) := hp
  have HV : Hid (∀ w', Fr F w w' → Reads w' v l) := hv
  have HW0 : Hid (W0 = _) := hW0
  have HB0 : Hid (Below w.heap.size w W0) := b0
  have HBX : Hid (BxA W0 w.heap.size 29 #[.int .i64 0]) := hbx
  have HFL : Hid (∀ i, F i → i < w.heap.size) := h.lt
  have HLT : Hid (w.heap.size < W0.heap.size) := hbx.lt
  clear h hs hp hv hc1 hr hW0 b0 hbx
  obtain ⟨va, vc, hve, -⟩ := HV.out w (Fr.refl _ _)
  subst hve
  by_cases h1 : c1 = 0
  · subst h1
    have hbn := (rfB_zero HC1.out.symm).2
    have hx62 := bNm_len hbn
    have HX62 : Hid (x.length ≤ 62) := hx62
    go_enter_defers Try.func19, Try.ntmps19
    go_wp2_with fail
    rw [← HW0.out]
    refine kR.mono ?_
    rintro e w1 ⟨rfl, b1⟩
    have HB1 : Hid (Below w.heap.size w w1) := HB0.out.trans (b1.mono HB0.out.size)
    have HL1 : Hid (w.heap.size < w1.heap.size) := Nat.lt_of_lt_of_le HLT.out b1.size
    have hb1 := box_at HBX.out (Fr.of_below (F := F) b1) HFL.out
    have HBX1 : Hid (BxA w1 w.heap.size 29 #[.int .i64 0]) := hb1
    have kN1 := need_ok w1
    have hv1 := HV.out w1 (Fr.of_below HB1.out)
    clear kR b1 hb1 hbn hx62
    by_cases hl : 1048576 < l.length
    · have kF := Wi.frame_long w1 _ l hv1 hl
      have cx := HBX1.out.cell 0 _ rfl
      have fx := HBX1.out.free 0
      have hb3 := HBX1.out.set 0 (.int .i64 1)
      have cx3 := hb3.cell 0 _ rfl
      have kN2 := need_bad (w1.setCell ⟨w.heap.size, 0, none⟩ (.int .i64 1)) 1 (by decide)
      have HL : Hid (1048576 < l.length) := hl
      have HBX3 : Hid (BxA (w1.setCell ⟨w.heap.size, 0, none⟩ (.int .i64 1)) w.heap.size 29 #[.int .i64 1]) := hb3
      clear hl hv1 hb3
      go_wp2_with fail
      refine kN1.mono ?_
      rintro e w1' ⟨rfl, rfl⟩
      go_wp2_with fail
      refine kF.mono ?_
      rintro e w1'' ⟨rfl, rfl⟩
      go_wp2_with fail
      refine kN2.mono ?_
      rintro e w3 ⟨rfl, rfl⟩
      have hb3 : BxA (w1''.setCell ⟨w.heap.size, 0, none⟩ (.int .i64 1)) w.heap.size 29 #[.int .i64 1] := HBX3.out
      have HB3 : Below w.heap.size w (w1''.setCell ⟨w.heap.size, 0, none⟩ (.int .i64 1)) := below_set HB1.out (Nat.le_refl _)
      go_wp2_with fail
      refine leaves_cons (f := 41) (args := #[.pointer (some ⟨w.heap.size, 0, none⟩)]) (by simp) (by simp [go_sem]) ?_
      refine (catch_thrown ⟨w.heap.size, 0, none⟩ _ (1) [] _ (hb3.cell 0 _ rfl) (hb3.free 0)).mono ?_
      rintro e u' w'' ⟨rfl, rfl, rfl⟩
      have hb2 : ((w1''.setCell ⟨w.heap.size, 0, none⟩ (.int .i64 1)).setCell ⟨w.heap.size, 0, none⟩ (.int .i64 (1 : Int))).cell? ⟨w.heap.size, 0, none⟩ = some (.int .i64 (1 : Int)) := (hb3.set 0 (.int .i64 (1 : Int))).cell 0 _ rfl
      have k := Wd.cell (u := .int .i64 (1 : Int)) (M := N + 1048584) HB3 (by simpa using HL1.out) (Wd.same (HD.out.below HB3) (Fr.refl _ _)) HFL.out (by omega)
      have e1 : r = (1, s) := by rw [HR.out]; unfold bput; rw [← HC1.out, if_neg (by simp), if_pos HL.out]
      simp [Leaves, settle, results, Try.results19, go_sem]
      rw [hb2]
      exact ⟨_, rfl, by rw [e1]; first | done | rfl, by rw [e1]; exact k⟩
    · have hl' : l.length ≤ 1048576 := by omega
      have kF := Wi.frame_any w1 _ l hv1 hl'
      have HL : Hid (¬ 1048576 < l.length) := hl
      clear hl hl' hv1
      go_wp2_with fail
      refine kN1.mono ?_
      rintro e w1' ⟨rfl, rfl⟩
      clear kN1
      go_wp2_with fail
      refine kF.mono ?_
      rintro e w2 ⟨v2, rfl, o2, b2⟩
      have HB2 : Hid (Below w.heap.size w w2) := HB1.out.trans (b2.mono HB1.out.size)
      have HL2 : Hid (w.heap.size < w2.heap.size) := Nat.lt_of_lt_of_le HL1.out b2.size
      have hb2' := box_at HBX1.out (Fr.of_below (F := F) b2) HFL.out
      have cx := hb2'.cell 0 _ rfl
      have fx := hb2'.free 0
      have hb3 := hb2'.set 0 (.int .i64 0)
      have cx3 := hb3.cell 0 _ rfl
      have HO2 : Hid (Owns w2 w1'.heap.size v2 (Wi.framed l)) := o2
      have HBX3 : Hid (BxA (w2.setCell ⟨w.heap.size, 0, none⟩ (.int .i64 0)) w.heap.size 29 #[.int .i64 0]) := hb3
      have kN3 := need_ok (w2.setCell ⟨w.heap.size, 0, none⟩ (.int .i64 0))
      obtain ⟨va2, vc2, hve2, -⟩ := HO2.out.reads
      subst hve2
      clear kF o2 b2 hb2' hb3
      go_wp2_with fail
      refine kN3.mono ?_
      rintro e w3 ⟨rfl, rfl⟩
      clear kN3
      obtain ⟨w3, hw3⟩ : ∃ w3, w3 = w2.setCell ⟨w.heap.size, 0, none⟩ (.int .i64 0) := ⟨_, rfl⟩
      have HB3 : Hid (Below w.heap.size w w3) := by apply hide; rw [hw3]; exact below_set HB2.out (Nat.le_refl _)
      have HO3 : Hid (Owns w3 w1'.heap.size (.slice va2 (Wi.framed l).length vc2) (Wi.framed l)) := by
        apply hide
        rw [hw3]
        exact owns_block HO2.out fun r hr => grown_setCell.block r (own_lt HO2.out r hr).2 fun e => by cases e; have := (own_lt HO2.out _ hr).1; have := HL1.out; omega
      have HL3 : Hid (w.heap.size < w3.heap.size) := by apply hide; rw [hw3]; simpa using HL2.out
      rw [← hw3] at HBX3 cx3
      rw [← hw3]
      clear hw3 cx fx
      have kH := holds_any w3 p d N F s x l _ (HD.out.below HB3.out) (HS.out.below HB3.out) hx (by omega) (HV.out w3 (Fr.of_below HB3.out))
      obtain ⟨fl, hfl⟩ : ∃ fl, fl = Wi.framed l := ⟨_, rfl⟩
      have hfln : fl.length = l.length + 8 := by rw [hfl]; exact framed_len l
      have HFL2 : Hid (fl = Wi.framed l) := hfl
      have HFN : Hid (fl.length = l.length + 8) := hfln
      rw [← hfl] at HO3 HO2
      rw [← hfl]
      clear hfl hfln
      cases hh : hol s x l with
      | none =>
        rw [hh] at kH
        have HH : Hid (hol s x l = none) := hh
        clear hh
        go_wp2_with fail
        refine kH.mono ?_
        rintro e w4 ⟨he, b4⟩
        subst he
        have f4 : Fr F w3 w4 := Fr.of_below b4
        have hb4 := box_at HBX3.out f4 HFL.out
        have HB4 : Below w.heap.size w w4 := HB3.out.trans (b4.mono HB3.out.size)
        have hl4 : w.heap.size < w4.heap.size := Nat.lt_of_lt_of_le HL3.out b4.size
        clear kH
        go_wp2_with fail
        refine leaves_cons (f := 41) (args := #[.pointer (some ⟨w.heap.size, 0, none⟩)]) (by simp) (by simp [go_sem]) ?_
        refine (catch_thrown ⟨w.heap.size, 0, none⟩ _ (121) [] _ (hb4.cell 0 _ rfl) (hb4.free 0)).mono ?_
        rintro e u' w'' ⟨rfl, rfl, rfl⟩
        have hb2 : (w4.setCell ⟨w.heap.size, 0, none⟩ (.int .i64 (121 : Int))).cell? ⟨w.heap.size, 0, none⟩ = some (.int .i64 (121 : Int)) := (hb4.set 0 (.int .i64 (121 : Int))).cell 0 _ rfl
        have k := Wd.cell (u := .int .i64 (121 : Int)) (M := N + 1048584) HB4 hl4 (Wd.same (HD.out.below HB4) (Fr.refl _ _)) HFL.out (by omega)
        have e1 : r = (121, s) := by rw [HR.out]; unfold bput; rw [← HC1.out, if_neg (by simp), if_neg HL.out, HH.out]
        simp [Leaves, settle, results, Try.results19, go_sem]
        rw [hb2]
        exact ⟨_, rfl, by rw [e1]; first | done | rfl, by rw [e1]; exact k⟩
      | some b =>
        rw [hh] at kH
        cases b with
        | true =>
          have HH : Hid (hol s x l = some true) := hh
          clear hh
          go_wp2_with fail
          refine kH.mono ?_
          rintro e w4 ⟨he, b4⟩
          subst he
          have f4 : Fr F w3 w4 := Fr.of_below b4
          have hb4 := box_at HBX3.out f4 HFL.out
          have HB4 : Below w.heap.size w w4 := HB3.out.trans (b4.mono HB3.out.size)
          have hl4 : w.heap.size < w4.heap.size := Nat.lt_of_lt_of_le HL3.out b4.size
          have cx4 := hb4.cell 0 _ rfl
          have fx4 := hb4.free 0
          clear kH
          go_wp2_with fail
          have hb2 : (w4.setCell ⟨w.heap.size, 0, none⟩ (.int .i64 0)).cell? ⟨w.heap.size, 0, none⟩ = some (.int .i64 0) := (hb4.set 0 (.int .i64 0)).cell 0 _ rfl
          have k := Wd.cell (u := .int .i64 0) (M := N + 1048584) HB4 hl4 (Wd.same (HD.out.below HB4) (Fr.refl _ _)) HFL.out (by omega)
          have e1 : r = (0, s) := by rw [HR.out]; unfold bput; rw [← HC1.out, if_neg (by simp), if_neg HL.out, HH.out]
          refine leaves_cons (f := 41) (args := #[.pointer (some ⟨w.heap.size, 0, none⟩)]) (by simp) (by simp [go_sem]) ?_
          refine (catch_idle ⟨w.heap.size, 0, none⟩ _).mono ?_
          rintro e u' w'' ⟨rfl, rfl, rfl⟩
          simp [Leaves, settle, results, Try.results19, go_sem]
          rw [hb2]
          exact ⟨_, rfl, by rw [e1]; rfl, by rw [e1]; exact k⟩
        | false =>
          have HH : Hid (hol s x l = some false) := hh
          clear hh
          go_wp2_with fail
          refine kH.mono ?_
          rintro e w4 ⟨he, b4⟩
          subst he
          have f4 : Fr F w3 w4 := Fr.of_below b4
          have hb4 := box_at HBX3.out f4 HFL.out
          have HB4 : Below w.heap.size w w4 := HB3.out.trans (b4.mono HB3.out.size)
          have hl4 : w.heap.size < w4.heap.size := Nat.lt_of_lt_of_le HL3.out b4.size
          have HHB4 : Hid (BxA w4 w.heap.size 29 #[.int .i64 0]) := hb4
          have HHL4 : Hid (w.heap.size < w4.heap.size ∧ Below w.heap.size w w4) := ⟨hl4, HB4⟩
          have hr4 : ∀ w', Fr F w4 w' → Reads w' (.slice va2 fl.length vc2) fl := fun w' hf => ((HO3.out.below b4).reads).fr (fun ad n c e hF => by
            have h1 := HFL.out _ hF
            have h2 := (own_lt HO3.out ad.block (by rw [e]; rfl)).1
            have := HL1.out
            omega) hf
          have kW := write_any w4 p d N F s x fl _ (HD.out.below HB4) (HS.out.below HB4) HP.out HX62.out hr4 (by rw [HFN.out]; have := HL.out; omega) hop
          have HRW : Hid (r = wrB s x fl) := by
            apply hide
            rw [HR.out]
            unfold bput
            rw [← HC1.out, if_neg (by simp), if_neg HL.out, HH.out, ← HFL2.out]
          obtain ⟨cw, hcw⟩ : ∃ c, c = (wrB s x fl).1 := ⟨_, rfl⟩
          obtain ⟨sw, hsw⟩ : ∃ q, q = (wrB s x fl).2 := ⟨_, rfl⟩
          have HE : Hid (r = (cw, sw)) := by apply hide; rw [HRW.out, hcw, hsw]
          rw [← hcw, ← hsw] at kW
          clear kH f4 hb4 HB4 hl4 b4 hr4 hcw hsw HRW
          by_cases hz : cw = 0
          · subst hz
            go_wp2_with fail
            refine kW.mono ?_
            rintro e w5 ⟨he, wd⟩
            unfold endB at he
            rw [if_pos rfl] at he
            subst he
            have hb5 := box_at HHB4.out wd.fr HFL.out
            have cx5 := hb5.cell 0 _ rfl
            have fx5 := hb5.free 0
            clear kW
            go_wp2_with fail
            have hb2 : (w5.setCell ⟨w.heap.size, 0, none⟩ (.int .i64 0)).cell? ⟨w.heap.size, 0, none⟩ = some (.int .i64 0) := (hb5.set 0 (.int .i64 0)).cell 0 _ rfl
            have k := Wd.cell (u := .int .i64 0) (M := N + 1048584) HHL4.out.2 HHL4.out.1 wd HFL.out (by rw [HFN.out]; have := HL.out; omega)
            have e1 : r = (0, sw) := HE.out
            refine leaves_cons (f := 41) (args := #[.pointer (some ⟨w.heap.size, 0, none⟩)]) (by simp) (by simp [go_sem]) ?_
            refine (catch_idle ⟨w.heap.size, 0, none⟩ _).mono ?_
            rintro e u' w'' ⟨rfl, rfl, rfl⟩
            simp [Leaves, settle, results, Try.results19, go_sem]
            rw [hb2]
            exact ⟨_, rfl, by rw [e1]; rfl, by rw [e1]; exact k⟩
          · have HZ : Hid (cw ≠ 0) := hz
            clear hz
            go_wp2_with fail
            refine kW.mono ?_
            rintro e w5 ⟨he, wd⟩
            unfold endB at he
            rw [if_neg HZ.out] at he
            subst he
            have hb5 := box_at HHB4.out wd.fr HFL.out
            clear kW
            go_wp2_with fail
            refine leaves_cons (f := 41) (args := #[.pointer (some ⟨w.heap.size, 0, none⟩)]) (by simp) (by simp [go_sem]) ?_
            refine (catch_thrown ⟨w.heap.size, 0, none⟩ _ (cw) [] _ (hb5.cell 0 _ rfl) (hb5.free 0)).mono ?_
            rintro e u' w'' ⟨rfl, rfl, rfl⟩
            have hb2 : (w5.setCell ⟨w.heap.size, 0, none⟩ (.int .i64 ((cw : Nat) : Int))).cell? ⟨w.heap.size, 0, none⟩ = some (.int .i64 ((cw : Nat) : Int)) := (hb5.set 0 (.int .i64 ((cw : Nat) : Int))).cell 0 _ rfl
            have k := Wd.cell (u := .int .i64 ((cw : Nat) : Int)) (M := N + 1048584) HHL4.out.2 HHL4.out.1 wd HFL.out (by rw [HFN.out]; have := HL.out; omega)
            have e1 : r = (cw, sw) := HE.out
            simp [Leaves, settle, results, Try.results19, go_sem]
            rw [hb2]
            exact ⟨_, rfl, by rw [e1]; first | done | rfl, by rw [e1]; exact k⟩
  · have kN := fun w1 => need_bad w1 c1 h1
    have H1 : Hid (c1 ≠ 0) := h1
    clear h1
    go_enter_defers Try.func19, Try.ntmps19
    go_wp2_with fail
    rw [← HW0.out]
    refine kR.mono ?_
    rintro e w1 ⟨rfl, b1⟩
    have kN1 := kN w1
    have HB1 : Hid (Below W0.heap.size W0 w1) := b1
    clear kN kR b1
    go_wp2_with fail
    refine kN1.mono ?_
    rintro e w1' ⟨rfl, rfl⟩
    have f1 : Fr F W0 w1' := Fr.of_below HB1.out
    have hb1 := box_at HBX.out f1 HFL.out
    go_wp2_with fail
    refine leaves_cons (f := 41) (args := #[.pointer (some ⟨w.heap.size, 0, none⟩)]) (by simp) (by simp [go_sem]) ?_
    refine (catch_thrown ⟨w.heap.size, 0, none⟩ _ (c1) [] _ (hb1.cell 0 _ rfl) (hb1.free 0)).mono ?_
    rintro e u' w'' ⟨rfl, rfl, rfl⟩
    have hb2 : (w1'.setCell ⟨w.heap.size, 0, none⟩ (.int .i64 ((c1 : Nat) : Int))).cell? ⟨w.heap.size, 0, none⟩ = some (.int .i64 ((c1 : Nat) : Int)) := (hb1.set 0 (.int .i64 ((c1 : Nat) : Int))).cell 0 _ rfl
    have k := Wd.cell (u := .int .i64 ((c1 : Nat) : Int)) (M := N + 1048584) HB0.out HLT.out (Wd.same (HD.out.below (HB0.out.trans (HB1.out.mono HB0.out.size))) f1) HFL.out (by omega)
    have e1 : r = (c1, s) := by rw [HR.out]; unfold bput; rw [← HC1.out, if_pos H1.out]
    simp [Leaves, settle, results, Try.results19, go_sem]
    rw [hb2]
    exact ⟨_, rfl, by rw [e1]; first | done | rfl, by rw [e1]; exact k⟩
end Go.Proofs.Ythegdhbmfojdaaa
