/- What came already: Fresh's walk. -/
import Derived.Test.YtnkllgpibmofiaaSn4
namespace Go.Proofs.Ytnkllgpibmofiaa
open Go.RowKit Go.Maps Go.Sort
set_option linter.unusedVariables false

theorem newSeen_any (w : World) (most : Int) : Calls Try.prog 24 #[.int .i64 most] w fun e w' => e = .returned (.pointer (some ⟨w.heap.size, 0, none⟩)) ∧ SnZ w' w.heap.size (fun i => i = w.heap.size) most 0 none [] ∧ Below w.heap.size w w' := by
  go_enter Try.func24, Try.ntmps24
  go_wp2_with fail
  go_ret
  exact ⟨rfl, ⟨BxA.new _ _ _, rfl, .inl ⟨rfl, rfl⟩, (fun _ h => by cases h), (fun _ h => by cases h), .nil, Nat.zero_le _, (fun _ h => by cases h), fun i hi => by rw [hi]; simp⟩, (Below.refl _ _).alloc (Nat.le_refl _) _⟩
theorem lenMap {w : World} {F : Nat → Prop} {x : Rw} (h : ROk w F x) (ty : TypeId) : (Builtin.len_ #[101] ty #[.map (some x.m)]).run Try.prog w = .ok (.int .i64 (x.ids.length : Int)) w := by
  obtain ⟨D, hm, hd⟩ := h.m
  have := hm.len Try.underlying101 ty
  rw [hd.size] at this
  exact this
theorem ROk.below {w w' : World} {F : Nat → Prop} {x : Rw} (h : ROk w F x) (hb : Below w.heap.size w w') : ROk w' F x := h.own fun i hi => hb.block i (by
  rcases h.kind hi with ⟨_, _, _, c⟩ | ⟨_, _, _, c⟩ | ⟨_, _, _, c⟩ <;> exact (Array.getElem?_eq_some_iff.1 c).1)
theorem SnZ.below {w w' : World} {s K : Nat} {F : Nat → Prop} {most : Int} {mo : Option Nat} {Z : List Rw} (h : SnZ w s F most K mo Z) (hb : Below w.heap.size w w') : SnZ w' s F most K mo Z := h.frame hb.size fun i hi => hb.block i (h.lt i hi)
set_option maxRecDepth 20000 in
set_option maxHeartbeats 4000000 in
theorem fresh_any (w : World) (s K : Nat) (F : Nat → Prop) (most f : Int) (id : Nat) (mo : Option Nat) (Z : List Rw) (h : SnZ w s F most K mo Z) (hK : K < 999990) (hf : B64 f) (hid : U64 id) (hmo : B64 most) :
    Calls Try.prog 25 #[.pointer (some ⟨s, 0, none⟩), .int .i64 f, .int .u64 (id : Int)] w fun e w' => FrO w w' s F most K Z f id e := by
  have kR := rowOf_any w s K F most f mo Z h (by omega) hf
  clear h
  go_enter Try.func25, Try.ntmps25
  go_wp2_with fail
  go_at_call 40
  refine kR.mono ?_
  rintro e w1 ⟨x, R, F1, mo1, he, hxf, hS, hZ, hFr, hFF⟩
  subst he
  clear kR
  have hx1 := (hS.e x (List.mem_cons_self ..)).1
  have hxl := (hS.e x (List.mem_cons_self ..)).2
  have cS : w1.cell? ⟨s, 0, none⟩ = some (.int .i64 most) := hS.b.cell 0 _ rfl
  have cX : w1.cell? ⟨x.g, 0, none⟩ = some (.map (some x.m)) := hx1.h.b.cell 0 _ rfl
  have hlen := fun n ty => lenMap (hx1.own (w' := w1.drewN n) fun _ _ => rfl) ty
  obtain ⟨g, hg⟩ : ∃ g, g = x.g := ⟨_, rfl⟩
  obtain ⟨m, hm⟩ : ∃ m, m = x.m := ⟨_, rfl⟩
  obtain ⟨n, hn⟩ : ∃ n, n = x.ids.length := ⟨_, rfl⟩
  obtain ⟨M, hM⟩ : ∃ M, M = max most 1 := ⟨_, rfl⟩
  have hmax : (if most < 1 then 1 else most) = M := by rw [hM]; split <;> omega
  rw [← hm] at cX hlen
  rw [← hg] at cX ⊢
  rw [← hn] at hlen hxl
  have HS := hide hS
  have HX := hide hx1
  have HF := hide hxf
  have HZ := hide hZ
  have HFR := hide hFr
  have HFF := hide hFF
  have HG := hide hg
  have HM := hide hM
  have HN := hide hn
  have hM1 : 1 ≤ M := by omega
  have hMb : M ≤ 9223372036854775807 := by have := hmo.2; omega
  have HHM := hide hm
  clear hS hx1 hxf hZ hFr hFF hg hM hn hm
  go_wp2_with fail
  go_quiet (fail)
  obtain ⟨W, hW⟩ : ∃ W, W = w1.drewN nq := ⟨_, rfl⟩
  rw [← hW]
  have hbW : Below w1.heap.size w1 W := by rw [hW]; exact ⟨rfl, rfl, rfl, Nat.le_refl _, fun _ _ => rfl⟩
  have hxW := HX.out.below hbW
  have hSW := HS.out.below hbW
  have kH := has_any W F1 x id hxW hid
  have HBW := hide hbW
  have HXW := hide hxW
  have HSW := hide hSW
  rw [← HG.out] at kH
  clear hW hbW hxW hSW cS cX hlen hmax
  by_cases hin : id ∈ x.ids
  · rw [show decide (id ∈ x.ids) = true by simpa using hin] at kH
    have HIN := hide hin
    clear hin
    go_wp2_with (go_at_call 41; refine kH.mono ?_; rintro e w2 ⟨he2, b2⟩; subst he2; have HB2 := hide b2; clear b2)
    go_ret
    exact ⟨false, x, x, R, F1, mo1, rfl, HF.out, HF.out, (HSW.out.below HB2.out).up, HZ.out, .inl ⟨rfl, rfl, .inl HIN.out⟩, (HFR.out.trans (Fr.of_below HBW.out) fun _ _ h => h).trans (Fr.of_below HB2.out) fun _ _ h => h, HFF.out⟩
  · rw [show decide (id ∈ x.ids) = false by simpa using hin] at kH
    have HIN := hide hin
    clear hin
    by_cases hfu : M ≤ (n : Int)
    · have hfz : decide (M ≤ (n : Int)) = true := by simpa using hfu
      have HFU := hide hfu
      have hnl : 0 < x.ids.length := by have := HN.out; omega
      have hmem := gv_mem hnl
      have hmin : ∀ y ∈ x.ids, gv x.ids 0 ≤ y := fun y hy => HX.out.hp.least hy
      obtain ⟨t, ht⟩ : ∃ t, t = gv x.ids 0 := ⟨_, rfl⟩
      rw [← ht] at hmem hmin
      have HT := hide ht
      have HME := hide hmem
      have HMI := hide hmin
      clear ht hmem hmin
      by_cases hlt : id < t
      · have hltz : (id : Int) < (t : Int) := by omega
        go_wp2_with (first | (go_at_call 41; refine kH.mono ?_; rintro e w2 ⟨he2, b2⟩; subst he2; have HB2 := hide b2; have kL := least_any w2 F1 x (HXW.out.below b2) hnl; rw [← HT.out, ← HG.out] at kL; clear b2) | (go_at_call 42; refine kL.mono ?_; rintro e w3 ⟨he3, hw3⟩; subst he3; have hw3 := hw3.symm; subst hw3))
        go_ret
        exact ⟨false, x, x, R, F1, mo1, rfl, HF.out, HF.out, (HSW.out.below HB2.out).up, HZ.out, .inl ⟨rfl, rfl, .inr ⟨by rw [← HM.out, ← HN.out]; exact HFU.out, t, HME.out, HMI.out, hlt⟩⟩, (HFR.out.trans (Fr.of_below HBW.out) fun _ _ h => h).trans (Fr.of_below HB2.out) fun _ _ h => h, HFF.out⟩
      · have hltz : ¬ (id : Int) < (t : Int) := by omega
        have HLT := hide hlt
        clear hlt
        go_wp2_with (first | (go_at_call 41; refine kH.mono ?_; rintro e w2 ⟨he2, b2⟩; subst he2; have HB2 := hide b2; have kL := least_any w2 F1 x (HXW.out.below b2) hnl; rw [← HT.out, ← HG.out] at kL; clear b2) | (go_at_call 42; refine kL.mono ?_; rintro e w3 ⟨he3, hw3⟩; subst he3; have hw3 := hw3.symm; subst hw3; have kM := remember_any w2 F1 x id (HXW.out.below HB2.out) (HSW.out.below HB2.out).lt hid HIN.out (by have := HN.out; omega); rw [← HG.out] at kM) | (go_at_call 43; refine kM.mono ?_; rintro e w3 ⟨he3, x3, e1, e2, e3, pm, hr, fr3, hv3⟩; subst he3; have E1 := hide e1; have E3 := hide e3; have PM := hide pm; have HR := hide hr; have FR3 := hide fr3; have HV3 := hide hv3; have E2 : Hid (x3.g = x.g) := e2.trans HG.out; have kG := forget_any w3 _ x3 n hr (by rw [pm.length_eq]; simp; exact HN.out.symm) (by omega); rw [e2] at kG; clear e1 e2 e3 pm hr fr3 hv3) | (go_at_call 44; refine kG.mono ?_; rintro e w4 ⟨he4, x4, e1, e2, e3, pm4, hr4, fr4, hv4⟩; subst he4))
        go_ret
        have hS2 := HSW.out.below HB2.out
        have hl3 : x3.ids.length ≤ K + 2 := by rw [PM.out.length_eq]; simp; have := HN.out; omega
        have hlt3 : ∀ i, (F1 i ∨ x3.v.ownBlock = some i) → i < w3.heap.size := fun i hi => by
          rcases hi with hi | hi
          · have := hS2.lt i hi; have := FR3.out.size; omega
          · exact (World.ownsRow.lt HR.out.h.o i hi).2
        have hS3 := hS2.up.turn E1.out E2.out E3.out (fun i h => .inl h) hlt3 HR.out FR3.out HV3.out hl3
        have hl4 : x4.ids.length ≤ K + 2 := by have := pm4.length_eq; simp at this; omega
        have hlt4 : ∀ i, (F1 i ∨ x3.v.ownBlock = some i) → i < w4.heap.size := fun i hi => by have := hlt3 i hi; have := fr4.size; omega
        have hS4 := hS3.turn e1 (e2.trans (HG.out.trans E2.out.symm)) e3 (fun i h => h) hlt4 hr4 fr4 (fun r hr => .inl (by rw [← hv4]; exact hr)) hl4
        have hg3 : gv x3.ids 0 = t := by
          have hpos : 0 < x3.ids.length := by rw [PM.out.length_eq]; simp
          have h1 : gv x3.ids 0 ≤ t := HR.out.hp.least (PM.out.mem_iff.2 (List.mem_append_left _ HME.out))
          have h2 : t ≤ gv x3.ids 0 := by
            rcases List.mem_append.1 (PM.out.mem_iff.1 (gv_mem hpos)) with h | h
            · exact HMI.out _ h
            · simp at h; rw [h]; have := HLT.out; omega
          omega
        rw [hg3] at pm4
        refine ⟨true, x, x4, R, _, mo1, rfl, HF.out, e1.trans (E1.out.trans HF.out), hS4, HZ.out, .inr (.inr ⟨rfl, HIN.out, by rw [← HM.out, ← HN.out]; exact HFU.out, t, HME.out, HMI.out, HLT.out, pm4.trans PM.out⟩), ?_, ?_⟩
        · refine ((((HFR.out.trans (Fr.of_below (F := F) HBW.out) fun _ _ h => h).trans (Fr.of_below (F := F) HB2.out) fun _ _ h => h).trans FR3.out) fun i hi h => ?_).trans fr4 fun i hi h => ?_
          · exact (HFF.out i (HX.out.bk h)).resolve_right (by omega)
          · have : F1 i ∨ x3.v.ownBlock = some i := HR.out.bk h
            rcases this with h | h
            · exact (HFF.out i h).resolve_right (by omega)
            · rcases HV3.out i h with h | h
              · exact (HFF.out i (HX.out.fv i h)).resolve_right (by omega)
              · have := HFR.out.size; have := HBW.out.size; have := HB2.out.size; omega
        · intro i hi
          rcases hi with hi | hi
          · exact HFF.out i hi
          · rcases HV3.out i hi with h | h
            · exact HFF.out i (HX.out.fv i h)
            · right; have := HFR.out.size; have := HBW.out.size; have := HB2.out.size; omega
    · have hfz : decide (M ≤ (n : Int)) = false := by simpa using hfu
      have hfz2 : ¬ M ≤ (n : Int) := hfu
      have HFU := hide hfz2
      go_wp2_with (first | (go_at_call 41; refine kH.mono ?_; rintro e w2 ⟨he2, b2⟩; subst he2; have HB2 := hide b2; have hx2 := HXW.out.below b2; have kM := remember_any w2 F1 x id hx2 (HSW.out.below b2).lt hid HIN.out (by have := HN.out; omega); rw [← HG.out] at kM; clear b2 hx2) | (go_at_call 43; refine kM.mono ?_; rintro e w3 ⟨he3, x3, e1, e2, e3, pm, hr, fr3, hv3⟩; subst he3))
      go_ret
      have hS2 := HSW.out.below HB2.out
      have hl3 : x3.ids.length ≤ K + 2 := by rw [pm.length_eq]; simp; have := HN.out; omega
      have hlt3 : ∀ i, (F1 i ∨ x3.v.ownBlock = some i) → i < w3.heap.size := fun i hi => by
        rcases hi with hi | hi
        · have := hS2.lt i hi; have := fr3.size; omega
        · exact (World.ownsRow.lt hr.h.o i hi).2
      have hS3 := hS2.up.turn e1 (e2.trans HG.out) e3 (fun i h => .inl h) hlt3 hr fr3 hv3 hl3
      refine ⟨true, x, x3, R, _, mo1, rfl, HF.out, e1.trans HF.out, hS3, HZ.out, .inr (.inl ⟨rfl, HIN.out, by rw [← HM.out, ← HN.out]; have := HFU.out; omega, pm⟩), ?_, ?_⟩
      · refine (((HFR.out.trans (Fr.of_below (F := F) HBW.out) fun _ _ h => h).trans (Fr.of_below (F := F) HB2.out) fun _ _ h => h).trans fr3) fun i hi h => ?_
        exact (HFF.out i (HX.out.bk h)).resolve_right (by omega)
      · intro i hi
        rcases hi with hi | hi
        · exact HFF.out i hi
        · rcases hv3 i hi with h | h
          · exact HFF.out i (HX.out.fv i h)
          · right; have := HFR.out.size; have := HBW.out.size; have := HB2.out.size; omega
end Go.Proofs.Ytnkllgpibmofiaa
