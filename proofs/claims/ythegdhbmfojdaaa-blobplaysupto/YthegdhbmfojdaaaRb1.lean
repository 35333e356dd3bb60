/- Contracts of the reference's blobs: Name, refused, Get, Delete. -/
import Derived.Test.YthegdhbmfojdaaaRbM
import Derived.Test.YthegdhbmfojdaaaWRefU
namespace Go.Proofs.Ythegdhbmfojdaaa
open Go.RowKit Go.Maps Go.Sort
set_option linter.unusedVariables false

theorem cat_bL (w : World) (x : Str) (h : x.length ≤ 2000000) : (Op.stringOp .add ⟨#[98, 46]⟩ ⟨x.toArray⟩).run Try.prog w = .ok (.string ⟨(fB x).toArray⟩) w :=
  run_string_add_lists (P := Try.prog) w [98, 46] x (by simp) (by omega)
theorem cat_tL (w : World) (x : Str) (h : x.length ≤ 2000000) : (Op.stringOp .add ⟨#[116, 46]⟩ ⟨x.toArray⟩).run Try.prog w = .ok (.string ⟨(fT x).toArray⟩) w :=
  run_string_add_lists (P := Try.prog) w [116, 46] x (by simp) (by omega)
theorem fB_len {x : Str} (h : x.length ≤ 2000000) : (fB x).length ≤ maxLen ∧ (fT x).length ≤ maxLen := by
  unfold fB fT maxLen
  simp
  omega
set_option maxHeartbeats 800000 in
theorem refnameB_any (w : World) (x : Str) (hx : x.length ≤ 2000000) : Calls Try.prog 70 #[.string ⟨x.toArray⟩] w fun e w' => e = .returned (.bool (bNm x)) ∧ w' = w := by
  have kN := refname_any w (fB x) (fB_len hx).1
  have hcat := cat_bL w x hx
  have HE : Hid (bNm x = (decide (x ≠ []) && isNm (fB x))) := bNm_eq x
  obtain ⟨q, hq⟩ : ∃ q, q = isNm (fB x) := ⟨_, rfl⟩
  rw [← hq] at kN HE
  obtain ⟨fx, hfx⟩ : ∃ fx, fx = fB x := ⟨_, rfl⟩
  rw [← hfx] at kN hcat
  clear hq hfx hx
  go_enter Try.func70, Try.ntmps70
  cases x with
  | nil =>
    go_wp2_with fail
    refine kN.mono ?_
    rintro e w' ⟨rfl, rfl⟩
    clear kN hcat
    go_wp2_with fail
    go_ret
    rw [HE.out]
    exact ⟨rfl, rfl⟩
  | cons c y =>
    go_wp2_with fail
    refine kN.mono ?_
    rintro e w' ⟨rfl, rfl⟩
    clear kN hcat
    go_wp2_with fail
    go_ret
    rw [HE.out]
    refine ⟨?_, rfl⟩
    simp
set_option maxHeartbeats 800000 in
theorem refrefB_any (w : World) (r N : Nat) (G : Nat → Prop) (t : RSt) (x : Str) (h : Rd w r G N t) (hx : x.length ≤ 2000000) :
    Calls Try.prog 61 #[.pointer (some ⟨r, 0, none⟩), .string ⟨x.toArray⟩] w fun e w' => e = .returned (.int .i64 (rrB t x : Nat)) ∧ w' = w := by
  obtain ⟨Lv, Z, hz⟩ := h
  have c1 := BxA.cell hz.b 1 _ rfl
  have kN := refnameB_any w x hx
  unfold rrB
  clear hz hx
  go_enter Try.func61, Try.ntmps61
  cases ho : t.off with
  | true =>
    rw [ho] at c1
    go_wp2_with fail
    go_ret
    exact ⟨rfl, rfl⟩
  | false =>
    rw [ho] at c1
    cases hb : bNm x with
    | true =>
      rw [hb] at kN
      go_wp2_with fail
      refine kN.mono ?_
      rintro e w' ⟨rfl, rfl⟩
      go_wp2_with fail
      go_ret
      exact ⟨rfl, rfl⟩
    | false =>
      rw [hb] at kN
      go_wp2_with fail
      refine kN.mono ?_
      rintro e w' ⟨rfl, rfl⟩
      go_wp2_with fail
      go_ret
      exact ⟨rfl, rfl⟩
theorem rrB_zero {t : RSt} {x : Str} (h : rrB t x = 0) : t.off = false ∧ bNm x = true := by
  unfold rrB at h
  cases ho : t.off <;> cases hb : bNm x <;> simp [ho, hb] at h ⊢
theorem RZ.nbL {w : World} {r N : Nat} {G : Nat → Prop} {t : RSt} (h : Rd w r G N t) (x : Str) : (rrd t x).length ≤ N := by
  obtain ⟨Lv, Z, hz⟩ := h
  unfold rrd
  split
  · rename_i hc
    have hh : hasF t.fs x = true := by
      unfold rrc at hc
      cases hh : hasF t.fs x with
      | true => rfl
      | false => rw [hh] at hc; revert hc; cases t.off <;> cases isNm x <;> simp
    obtain ⟨i, hi, -, -, hb, -⟩ := hz.find hh
    rw [hb]
    exact hz.nb _ (List.getElem_mem hi)
  · exact Nat.zero_le _
set_option maxRecDepth 100000 in
set_option maxHeartbeats 1600000 in
theorem refgetB_any (w : World) (r N : Nat) (G : Nat → Prop) (t : RSt) (x : Str) (h : Rd w r G N t) (hx : x.length ≤ 2000000) (hN : N ≤ 140737488355328) :
    Calls Try.prog 34 #[.pointer (some ⟨r, 0, none⟩), .string ⟨x.toArray⟩] w fun e w' => ∃ v, e = .returned (.tuple #[v, .int .i64 ((rgetB t x).1 : Nat)]) ∧ Owns w' w.heap.size v (rgetB t x).2 ∧ Below w.heap.size w w' := by
  have kR := refrefB_any w r N G t x h hx
  have kD := refread_any w r N G t (fB x) h (fB_len hx).1 hN
  have hcat := cat_bL w x hx
  have hlen := RZ.nbL h (fB x)
  obtain ⟨c1, hc1⟩ : ∃ c, c = rrB t x := ⟨_, rfl⟩
  obtain ⟨c2, hc2⟩ : ∃ c, c = rrc t (fB x) (fB x) := ⟨_, rfl⟩
  obtain ⟨l, hl⟩ : ∃ l, l = rrd t (fB x) := ⟨_, rfl⟩
  have HR : Hid (rgetB t x = if c1 ≠ 0 then (c1, []) else if c2 ≠ 0 then (c2, []) else if Wi.unf l = 0 then (0, l.drop 8) else (11, [])) := by apply hide; rw [hc1, hc2, hl]; rfl
  rw [← hc1] at kR
  rw [← hc2, ← hl] at kD
  rw [← hl] at hlen
  obtain ⟨fx, hfx⟩ : ∃ fx, fx = fB x := ⟨_, rfl⟩
  rw [← hfx] at kD hcat
  clear h hx hc1 hc2 hl hfx
  go_enter Try.func34, Try.ntmps34
  go_wp2_with fail
  refine kR.mono ?_
  rintro e w' ⟨rfl, rfl⟩
  clear kR
  by_cases h1 : c1 = 0
  · subst h1
    go_wp2_with fail
    refine kD.mono ?_
    rintro e w2 ⟨v2, rfl, o2, b2⟩
    have HB2 : Hid (Below w'.heap.size w' w2) := b2
    have HO2 : Hid (Owns w2 w'.heap.size v2 l) := o2
    clear kD o2 b2 hcat
    by_cases h2 : c2 = 0
    · subst h2
      by_cases h3 : Wi.unf l = 0
      · have kU := Wi.refun_ok w2 v2 l HO2.out.reads h3
        go_wp2_with fail
        refine kU.mono ?_
        rintro e w3 ⟨v3, rfl, o3, b3⟩
        have H3 : Hid (Owns w3 w2.heap.size v3 (l.drop 8) ∧ Below w2.heap.size w2 w3) := ⟨o3, b3⟩
        clear kU o3 b3
        go_wp2_with fail
        go_ret2
        rw [HR.out, if_neg (by simp), if_neg (by simp), if_pos h3]
        exact ⟨_, rfl, H3.out.1.mono HB2.out.size, HB2.out.trans (H3.out.2.mono HB2.out.size)⟩
      · have kU := Wi.refun_bad w2 v2 l HO2.out.reads (by omega) h3
        obtain ⟨c3, hc3⟩ : ∃ c, c = Wi.unf l := ⟨_, rfl⟩
        have hcz := code_nz h3
        have HN3 : Hid (¬ Wi.unf l = 0) := h3
        rw [← hc3] at kU hcz
        clear h3 hc3
        go_wp2_with fail
        refine kU.mono ?_
        rintro e w3 ⟨rfl, b3⟩
        have H3 : Hid (Below w2.heap.size w2 w3) := b3
        clear kU b3
        go_wp2_with fail
        go_ret2
        rw [HR.out, if_neg (by simp), if_neg (by simp), if_neg HN3.out]
        exact ⟨_, rfl, World.ownsRow_nil _ _ _ _, HB2.out.trans (H3.out.mono HB2.out.size)⟩
    · have hcz := code_nz h2
      go_wp2_with fail
      go_ret2
      rw [HR.out, if_neg (by simp), if_pos h2]
      exact ⟨_, rfl, World.ownsRow_nil _ _ _ _, HB2.out⟩
  · have hcz := code_nz h1
    go_wp2_with fail
    go_ret2
    rw [HR.out, if_pos h1]
    exact ⟨_, rfl, World.ownsRow_nil _ _ _ _, Below.refl _ _⟩
theorem Rm.sameB {w : World} {r N M : Nat} {G : Nat → Prop} {t : RSt} (h : Rd w r G N t) (hM : N ≤ M) : Rm w w r G M t := by
  obtain ⟨Lv, Z, hz⟩ := h
  exact ⟨⟨G, ⟨Lv, Z, hz.more hM⟩, fun _ h => .inl h⟩, Fr.refl _ _⟩
set_option maxHeartbeats 800000 in
theorem refdelB_any (w : World) (r N : Nat) (G : Nat → Prop) (t : RSt) (x : Str) (h : Rd w r G N t) (hx : x.length ≤ 2000000) (hN : N ≤ 140737488355328) (hop : t.n < 1000000) (hp : t.part ≤ 9223372036854775807) :
    Calls Try.prog 36 #[.pointer (some ⟨r, 0, none⟩), .string ⟨x.toArray⟩] w fun e w' => e = .returned (.int .i64 ((rdelB t x).1 : Nat)) ∧ Rm w w' r G N (rdelB t x).2 := by
  have kR := refrefB_any w r N G t x h hx
  have kD := refremove_any w r N G t (fB x) h (fB_len hx).1 hN hop hp
  have hcat := cat_bL w x hx
  obtain ⟨c1, hc1⟩ : ∃ c, c = rrB t x := ⟨_, rfl⟩
  have HR : Hid (rdelB t x = if c1 ≠ 0 then (c1, t) else rrem t (fB x)) := by apply hide; rw [hc1]; rfl
  have HD : Hid (Rd w r G N t) := h
  rw [← hc1] at kR
  obtain ⟨fx, hfx⟩ : ∃ fx, fx = fB x := ⟨_, rfl⟩
  rw [← hfx] at kD hcat HR
  clear h hx hc1 hfx
  go_enter Try.func36, Try.ntmps36
  go_wp2_with fail
  refine kR.mono ?_
  rintro e w' ⟨rfl, rfl⟩
  clear kR
  by_cases h1 : c1 = 0
  · subst h1
    go_wp2_with fail
    refine kD.mono ?_
    rintro e w2 ⟨rfl, m2⟩
    have HM : Hid (Rm w' w2 r G N (rrem t fx).2) := m2
    clear kD m2 hcat
    go_wp2_with fail
    go_ret
    rw [HR.out, if_neg (by simp)]
    exact ⟨rfl, HM.out⟩
  · have hcz := code_nz h1
    go_wp2_with fail
    go_ret
    rw [HR.out, if_pos h1]
    exact ⟨rfl, Rm.sameB HD.out (Nat.le_refl _)⟩
end Go.Proofs.Ythegdhbmfojdaaa
