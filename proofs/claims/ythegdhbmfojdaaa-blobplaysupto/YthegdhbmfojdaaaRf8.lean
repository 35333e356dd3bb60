/- The reference's disk: Remove. -/
import Derived.Test.YthegdhbmfojdaaaRf7
namespace Go.Proofs.Ythegdhbmfojdaaa
open Go.RowKit Go.Maps Go.Sort
set_option linter.unusedVariables false

def rrem (s : RSt) (t : Str) : Nat × RSt := if rrc s t t ≠ 0 then (rrc s t t, s) else if (rcnt s).1 then (122, (rcnt s).2) else (0, { (rcnt s).2 with fs := (rcnt s).2.fs.eraseIdx (fI (rcnt s).2.fs t).toNat })
set_option maxRecDepth 100000 in
set_option maxHeartbeats 1600000 in
theorem refremove_any (w : World) (r N : Nat) (F : Nat → Prop) (s : RSt) (t : Str) (h : Rd w r F N s) (ht : t.length ≤ maxLen) (hN : N ≤ 140737488355328) (hop : s.n < 1000000) (hp : s.part ≤ 9223372036854775807) :
    Calls Try.prog 63 #[.pointer (some ⟨r, 0, none⟩), .string ⟨t.toArray⟩] w fun e w' => e = .returned (.int .i64 ((rrem s t).1 : Nat)) ∧ Rm w w' r F N (rrem s t).2 := by
  have mixed : Try.prog.follows .mixedOrders = true := by kernel_rfl
  have kR := refrefused_any w r N F s t t h ht ht
  have kC := refcounts_any w r N F s h hN hop hp
  have HH : Hid (Rd w r F N s) := h
  have HC : Hid (rrc s t t = 0 → hasF s.fs t = true) := fun q => by
    unfold rrc at q
    cases ho : s.off with
    | true => rw [ho] at q; simp at q
    | false =>
      cases hn : isNm t with
      | false => rw [ho, hn] at q; simp at q
      | true =>
        cases hh : hasF s.fs t with
        | true => rfl
        | false => rw [ho, hn, hh] at q; simp at q
  obtain ⟨c, hc⟩ : ∃ c, c = rrc s t t := ⟨_, rfl⟩
  rw [← hc] at kR HC
  have HCC : Hid (c = rrc s t t) := hc
  clear h hc
  by_cases h0 : c = 0
  · subst h0
    have hh := HC.out rfl
    obtain ⟨b, hb⟩ : ∃ b, b = (rcnt s).1 := ⟨_, rfl⟩
    rw [← hb] at kC
    have HB : Hid (b = (rcnt s).1) := hb
    have HT : Hid (hasF s.fs t = true) := hh
    clear hb hh
    cases b
    case true =>
      have HE : Hid (rrem s t = (122, (rcnt s).2)) := by
        apply hide
        unfold rrem
        rw [← HCC.out, if_neg (by simp), if_pos HB.out.symm]
      go_enter Try.func63, Try.ntmps63
      go_wp2_with fail
      refine kR.mono ?_
      rintro e wq ⟨rfl, rfl⟩
      clear kR
      go_wp2_with fail
      refine kC.mono ?_
      rintro e w2 ⟨rfl, m2⟩
      have HM2 : Hid _ := m2
      clear kC m2
      go_wp2_with fail
      go_ret
      rw [HE.out]
      exact ⟨rfl, HM2.out⟩
    case false =>
      have HE : Hid (rrem s t = (0, { (rcnt s).2 with fs := (rcnt s).2.fs.eraseIdx (fI (rcnt s).2.fs t).toNat })) := by
        apply hide
        unfold rrem
        rw [← HCC.out, if_neg (by simp), if_neg (by rw [← HB.out]; simp)]
      have HFS : Hid ((rcnt s).2.fs = s.fs) := by
        apply hide
        have := HB.out
        unfold rcnt at this ⊢
        split
        · rename_i q; rw [if_pos q] at this; cases this
        · rfl
      obtain ⟨s2, hs2⟩ : ∃ q, q = (rcnt s).2 := ⟨_, rfl⟩
      rw [← hs2] at kC HE HFS
      rw [← HFS.out] at HT
      clear hs2 HB HCC HC HH
      go_enter Try.func63, Try.ntmps63
      go_wp2_with fail
      refine kR.mono ?_
      rintro e wq ⟨rfl, rfl⟩
      clear kR
      go_wp2_with fail
      refine kC.mono ?_
      rintro e w2 ⟨rfl, ⟨F2, d2, hF2⟩, f2⟩
      obtain ⟨Lv, Z, hz⟩ := d2
      obtain ⟨i, hi, e1, e2, -, -⟩ := hz.find HT.out
      obtain ⟨a, cap, rfl, hc1, hc2, hcs⟩ := hz.cells
      obtain ⟨g, rfl, -⟩ := hcs (by omega)
      have kO := refout_any w2 r N g cap Z.length i F2 s2 t Z hz rfl hi e1
      have HF1 : Hid (fI s2.fs t = (i : Int)) := e1
      have HFR : Hid (F2 r) := hz.f
      have HM : Hid ((∀ i, F2 i → F i ∨ wq.heap.size ≤ i) ∧ Fr F wq w2) := ⟨hF2, f2⟩
      clear hz e1 e2 kC hF2 f2 hcs hc1 hc2
      go_wp2_with fail
      refine kO.mono ?_
      rintro e w5 ⟨rfl, Lv5, h5, -, hv5, f5⟩
      have H5 : Hid (RZ w5 r (fun j => F2 j ∨ Lv5.ownBlock = some j) N { s2 with fs := s2.fs.eraseIdx i } Lv5 (Z.eraseIdx i) ∧ (∀ j, Lv5.ownBlock = some j → w2.heap.size ≤ j) ∧ Fr (fun j => j = r) w2 w5) := ⟨h5, hv5, f5⟩
      clear kO h5 hv5 f5
      go_wp2_with fail
      go_ret
      rw [HE.out, HF1.out]
      have hs := HM.out.2.size
      refine ⟨rfl, ⟨_, ⟨Lv5, _, H5.out.1⟩, fun j hj => ?_⟩, HM.out.2.trans H5.out.2.2 fun j hj q => ?_⟩
      · rcases hj with hj | hj
        · exact HM.out.1 j hj
        · right
          have := H5.out.2.1 j hj
          omega
      · have q' : j = r := q
        rcases HM.out.1 r HFR.out with h | h
        · rw [q']; exact h
        · omega
  · have h0z : ¬ (c : Int) = 0 := by omega
    have HE : Hid (rrem s t = (c, s)) := by
      apply hide
      unfold rrem
      rw [← HCC.out, if_pos h0]
    go_enter Try.func63, Try.ntmps63
    go_wp2_with fail
    refine kR.mono ?_
    rintro e wq ⟨rfl, rfl⟩
    clear kR kC
    go_wp2_with fail
    go_ret
    rw [HE.out]
    exact ⟨rfl, Rm.same HH.out (Fr.refl _ _)⟩
/-- What Rename leaves: the file under its new name among the others, in their order. -/
structure Rnm (s s' : RSt) (a b : Str) : Prop where
  ex : ∃ (A B : List Fl) (f : Fl), f ∈ s.fs ∧ f.nm = a ∧ s' = { s with fs := A ++ ⟨b, f.bs, f.sy⟩ :: B } ∧ (A ++ B = (s.fs.eraseIdx (fI s.fs a).toNat) ∧ hasF (A ++ B) b = false ∨ hasF (s.fs.eraseIdx (fI s.fs a).toNat) b = true ∧ A ++ B = (s.fs.eraseIdx (fI s.fs a).toNat).eraseIdx (fI (s.fs.eraseIdx (fI s.fs a).toNat) b).toNat) ∧ (∀ q ∈ B, b < q.nm) ∧ (∀ q, A.getLast? = some q → ¬ b < q.nm)
end Go.Proofs.Ythegdhbmfojdaaa
