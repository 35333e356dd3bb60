/- The law's book: a call is noted. -/
import Derived.Test.YtdcoeebpknipdaaNtA
namespace Go.Proofs.Ytdcoeebpknipdaa
open Go.RowKit Go.Maps Go.Sort

theorem at1_ex (E : List Fl) (t : Str) : ∃ z, At1 E t z := by
  by_cases h : ∃ f ∈ E, f.nm = t
  · obtain ⟨f, hf, e⟩ := h
    obtain ⟨i, hi⟩ := List.mem_iff_getElem?.1 hf
    exact ⟨i, .inl ⟨i, f, hi, e, rfl⟩⟩
  · exact ⟨-1, .inr ⟨fun f hf e => h ⟨f, hf, e⟩, rfl⟩⟩
/-- The book behind a renaming: where the names stood is told. -/
def renE (E : List Fl) (nm t : Str) (z j : Int) : List Fl := if 0 ≤ z ∧ nm ≠ t then (if 0 ≤ j then (E.set z.toNat ⟨t, (E.getD z.toNat ⟨[], [], 0⟩).bs, (E.getD z.toNat ⟨[], [], 0⟩).sy⟩).eraseIdx j.toNat else E.set z.toNat ⟨t, (E.getD z.toNat ⟨[], [], 0⟩).bs, (E.getD z.toNat ⟨[], [], 0⟩).sy⟩) else E
set_option maxRecDepth 100000 in
set_option maxHeartbeats 3200000 in
theorem note_ren (w : World) (b d N : Nat) (G F : Nat → Prop) (E : List Fl) (s : St) (K M : Int) (A B : Str) (u : Value) (hK1 : -9223372036854775808 ≤ K) (hK2 : K ≤ 9223372036854775807) (hk : absN K % 6 = 5) (hA : A.length ≤ maxLen) (hBl : B.length ≤ maxLen) (hB : Bk w b G E) (hD : Dk w d F N s) (hap : ∀ i, G i → ¬ F i) (hop : s.ops < 1000000) :
    Calls Try.prog 16 #[.pointer (some ⟨b, 0, none⟩), .pointer (some ⟨d, 0, none⟩), .agg #[.int .i64 K, .string ⟨A.toArray⟩, .string ⟨B.toArray⟩, u, .int .i64 M]] w fun e w' => ∃ z j, At1 E (nmK A.length) z ∧ At1 E (nmK B.length) j ∧ e = .returned (.bool (decide ((s.rename (nmK A.length) (nmK B.length)).1 = 0) == decide (0 ≤ z))) ∧ Nt w w' b d G F N (s.rename (nmK A.length) (nmK B.length)).2 (renE E (nmK A.length) (nmK B.length) z j) := by
  unfold maxLen at hBl
  obtain ⟨t, htn⟩ : ∃ t, t = nmK B.length := ⟨_, rfl⟩
  have htl : t.length ≤ maxLen := by
    have := (nmK_facts B.length).2
    rw [← htn] at this
    simp only [nmL, List.mem_cons, List.not_mem_nil, or_false] at this
    unfold maxLen
    rcases this with rfl | rfl | rfl | rfl | rfl <;> simp
  rw [← htn]
  have HTN : Hid _ := htn
  have HTL : Hid _ := htl
  clear htn htl
  unfold maxLen at hA
  obtain ⟨W, hW⟩ : ∃ W, W = w.alloc (.cells #[.int .i64 K, .string ⟨A.toArray⟩, .string ⟨B.toArray⟩, u, .int .i64 M] 31) := ⟨_, rfl⟩
  have bW : Below w.heap.size w W := by rw [hW]; exact (Below.refl _ _).alloc (Nat.le_refl _) _
  have hx : BxA W w.heap.size 31 #[.int .i64 K, .string ⟨A.toArray⟩, .string ⟨B.toArray⟩, u, .int .i64 M] := by rw [hW]; exact BxA.new _ _ _
  have kN := name_any W A.length (by omega)
  have hsz := str_size A
  obtain ⟨nm, hnm⟩ : ∃ nm, nm = nmK A.length := ⟨_, rfl⟩
  have hnl : nm.length ≤ maxLen := by
    have := (nmK_facts A.length).2
    rw [← hnm] at this
    simp only [nmL, List.mem_cons, List.not_mem_nil, or_false] at this
    unfold maxLen
    rcases this with rfl | rfl | rfl | rfl | rfl <;> simp
  rw [← hnm] at kN
  rw [← hnm]
  have HW : Hid (W = _) := hW
  have HX : Hid (BxA W w.heap.size 31 #[.int .i64 K, .string ⟨A.toArray⟩, .string ⟨B.toArray⟩, u, .int .i64 M]) := hx
  have HK : Hid _ := And.intro hK1 hK2
  have HBW : Hid (Below w.heap.size w W) := bW
  have HB : Hid (Bk w b G E) := hB
  have HD : Hid (Dk w d F N s) := hD
  have HAP : Hid (∀ i, G i → ¬ F i) := hap
  have HNL : Hid _ := hnl
  have hc1 := hx.cell 1 _ rfl
  clear hW hx hnm hnl bW hB hD hap hK1 hK2
  go_enter Try.func16, Try.ntmps16
  go_wp2_with fail
  rw [← HW.out]
  go_wp2_with fail
  refine kN.mono ?_
  rintro e w1 ⟨rfl, b1⟩
  have HB1 : Hid (Below w.heap.size w w1) := HBW.out.trans (b1.mono HBW.out.size)
  have HX1 : Hid (BxA w1 w.heap.size 31 #[.int .i64 K, .string ⟨A.toArray⟩, .string ⟨B.toArray⟩, u, .int .i64 M]) := by
    apply hide
    have := HX.out
    unfold BxA at this ⊢
    rw [b1.block _ HX.out.lt]
    exact this
  have hc0 := HX1.out.cell 0 _ rfl
  have kAt := at_any w1 b G E nm (HB.out.below HB1.out)
  have kAb := abs_any w1 K HK.out.1 HK.out.2
  have hab : (absN K : Int) % 6 = 5 := by omega
  clear kN b1 hc1
  go_wp2_with fail
  refine kAt.mono ?_
  rintro e w1' ⟨z, rfl, hz, rfl⟩
  have HZ : Hid (At1 E nm z) := hz
  have hzb := hz.lt
  have hzg := hz.ge
  have hfew := HB.out.few
  have hc2 := HX1.out.cell 2 _ rfl
  have kN2 := name_any w1' B.length (by omega)
  rw [← HTN.out] at kN2
  have hszB := str_size B
  obtain ⟨cd, hcd⟩ : ∃ cd, cd = (s.rename nm t).1 := ⟨_, rfl⟩
  have HCD : Hid (cd = (s.rename nm t).1) := hcd
  have hcz := code_dec cd
  clear kAt hz hcd
  go_wp2_with fail
  refine kAb.mono ?_
  rintro e w1'' ⟨rfl, rfl⟩
  clear kAb
  go_wp2_with fail
  refine kN2.mono ?_
  rintro e w2 ⟨rfl, b2⟩
  have HB2 : Hid (Below w.heap.size w w2) := HB1.out.trans (b2.mono HB1.out.size)
  have kR := rename_any w2 d N F s nm t (HD.out.below HB2.out) HNL.out HTL.out hop
  rw [← HCD.out] at kR
  clear kN2 b2
  go_wp2_with fail
  refine kR.mono ?_
  rintro e w3 ⟨rfl, d3, fr3⟩
  have HD3 : Hid (Dk w3 d F N (s.rename nm t).2) := d3
  have HF3 : Hid (Fr F w2 w3) := fr3
  have HB3 : Hid (Bk w3 b G E) := (HB.out.below HB2.out).other fr3 HAP.out
  clear kR d3 fr3
  by_cases h0 : 0 ≤ z
  · obtain ⟨i, hi⟩ : ∃ i : Nat, z = (i : Int) := ⟨z.toNat, by omega⟩
    subst hi
    by_cases hne : nm = t
    · have hne2 : (nm == t) = true := by simpa using hne
      have hne3 : (nm != t) = false := by simpa using hne
      have HNE : Hid (nm = t) := hne
      clear hne
      go_wp2_with fail
      go_ret
      obtain ⟨j, hj⟩ := at1_ex E t
      refine ⟨_, j, HZ.out, hj, ?_, ?_⟩
      · rw [← HCD.out]
        simp [code_beq]
      · unfold renE
        rw [if_neg (fun h => h.2 HNE.out)]
        exact Nt.two HB2.out HD3.out HF3.out (fun _ h => .inl h) HAP.out HB.out.lt HB3.out (fun _ h => .inl h) (Fr.refl _ _)
    · have hne2 : (nm == t) = false := by simpa using hne
      have hne3 : (nm != t) = true := by simpa using hne
      have HNE : Hid (nm ≠ t) := hne
      clear hne
      have kA2 := at_any w3 b G E t HB3.out
      go_wp2_with fail
      refine kA2.mono ?_
      rintro e w3' ⟨j, rfl, hj, rfl⟩
      have HJ : Hid (At1 E t j) := hj
      have hjb := hj.lt
      have hjg := hj.ge
      clear kA2 hj
      have hil : i < E.length := by omega
      obtain ⟨f, hf⟩ : ∃ f, E[i]? = some f := ⟨E[i], List.getElem?_eq_getElem hil⟩
      have HGD : Hid (E.getD i ⟨[], [], 0⟩ = f) := by apply hide; simp [List.getD, hf]
      obtain ⟨nv, bv', yv, hv⟩ := HB3.out
      obtain ⟨g2, c2, hv2, r2, fz2, k2, m2⟩ := hv.n.get (i := i) (u := .string ⟨f.nm.toArray⟩) (by simp [sv, hf])
      simp only [sv_length, List.length_map] at hv2 k2
      subst hv2
      unfold maxLen at m2
      have cb0 := hv.x.cell 0 _ rfl
      have A4 := hv.nam1 hf t (w3 := w3'.setCell ⟨g2, i, none⟩ (.string ⟨t.toArray⟩)) rfl ⟨rfl, rfl, rfl⟩
      have H4 : Hid _ := A4
      clear hv hf A4
      by_cases hj0 : 0 ≤ j
      · obtain ⟨k, hk'⟩ : ∃ k : Nat, j = (k : Int) := ⟨j.toNat, by omega⟩
        subst hk'
        have kO := out_any (w3'.setCell ⟨g2, i, none⟩ (.string ⟨t.toArray⟩)) b G (E.set i ⟨t, f.bs, f.sy⟩) k (by rw [List.length_set]; omega) H4.out.1
        go_wp2_with fail
        refine kO.mono ?_
        rintro e w5 ⟨rfl, G5, b5, hG5, fr5⟩
        have HB5 : Hid (Bk w5 b G5 _) := b5
        have HG5 : Hid _ := hG5
        have HF5 : Hid _ := fr5
        clear kO b5 hG5 fr5
        go_wp2_with fail
        go_ret
        refine ⟨_, _, HZ.out, HJ.out, ?_, ?_⟩
        · rw [← HCD.out]
          simp [code_beq]
        · unfold renE
          rw [if_pos ⟨by omega, HNE.out⟩, if_pos (by omega)]
          simp only [Int.toNat_natCast]
          rw [HGD.out]
          have s4 := H4.out.2.size
          exact Nt.two HB2.out HD3.out HF3.out (fun _ h => .inl h) HAP.out HB.out.lt HB5.out (fun j h => (HG5.out j h).imp id fun h => by omega) (H4.out.2.trans HF5.out fun _ _ h => h)
      · go_wp2_with fail
        go_ret
        refine ⟨_, _, HZ.out, HJ.out, ?_, ?_⟩
        · rw [← HCD.out]
          simp [code_beq]
        · unfold renE
          rw [if_pos ⟨by omega, HNE.out⟩, if_neg (by omega)]
          simp only [Int.toNat_natCast]
          rw [HGD.out]
          exact Nt.two HB2.out HD3.out HF3.out (fun _ h => .inl h) HAP.out HB.out.lt H4.out.1 (fun _ h => .inl h) H4.out.2
  · go_wp2_with fail
    go_ret
    obtain ⟨j, hj⟩ := at1_ex E t
    first | refine ⟨_, j, HZ.out, hj, ?_, ?_⟩ | refine ⟨_, HZ.out, j, hj, ?_, ?_⟩
    · rw [← HCD.out]
      simp [code_beq]
      rw [decide_eq_false (show ¬ 0 ≤ z by omega)]
      cases decide (cd = 0) <;> rfl
    · unfold renE
      rw [if_neg (by omega)]
      exact Nt.two HB2.out HD3.out HF3.out (fun _ h => .inl h) HAP.out HB.out.lt HB3.out (fun _ h => .inl h) (Fr.refl _ _)
end Go.Proofs.Ytdcoeebpknipdaa
