/- What came already: the row of a sender. -/
import Derived.Test.YtnkllgpibmofiaaSn2
namespace Go.Proofs.Ytnkllgpibmofiaa
open Go.RowKit Go.Maps Go.Sort
set_option linter.unusedVariables false

structure RowOf (w w' : World) (s : Nat) (F : Nat → Prop) (most : Int) (K : Nat) (Z : List Rw) (f : Int) (e : Ending) : Prop where
  ex : ∃ (x : Rw) (R : List Rw) (F' : Nat → Prop) (mo' : Option Nat), e = .returned (.pointer (some ⟨x.g, 0, none⟩)) ∧ x.fr = f ∧ SnZ w' s F' most (K + 1) mo' (x :: R) ∧ (Z.Perm (x :: R) ∨ (x.ids = [] ∧ R = Z ∧ ∀ y ∈ Z, y.fr ≠ f)) ∧ Fr F w w' ∧ (∀ i, F' i → F i ∨ w.heap.size ≤ i)
theorem SnZ.up {w : World} {s K : Nat} {F : Nat → Prop} {most : Int} {mo : Option Nat} {Z : List Rw} (h : SnZ w s F most K mo Z) : SnZ w s F most (K + 1) mo Z :=
  ⟨h.b, h.f, h.m, h.fm, fun x hx => ⟨(h.e x hx).1, Nat.le_succ_of_le (h.e x hx).2⟩, h.ap, Nat.le_succ_of_le h.few, h.om, h.lt⟩
set_option maxRecDepth 20000 in
set_option maxHeartbeats 4000000 in
theorem rowOf_some (w : World) (s K m : Nat) (F : Nat → Prop) (most f : Int) (Z : List Rw) (h : SnZ w s F most K (some m) Z) (hK : K < 1000000) (hf : B64 f) :
    Calls Try.prog 40 #[.pointer (some ⟨s, 0, none⟩), .int .i64 f] w fun e w' => RowOf w w' s F most K Z f e := by
  obtain ⟨D, hm, hd⟩ : ∃ D, w.ownsMap Try.prog 3 pel m Z.length D ∧ MR D Z := by
    rcases h.m with ⟨e1, _⟩ | ⟨m', D', e1, hm', hd'⟩
    · cases e1
    · injection e1 with e1
      subst e1
      exact ⟨D', hm', hd'⟩
  have c1 : w.cell? ⟨s, 1, none⟩ = some (.map (some m)) := h.b.cell 1 _ rfl
  have hnil : (binOp .eql 96 (.map (some m)) (.map none)).run Try.prog w = .ok (.bool false) w := run_eql_map_nil _ _ _ _ _ Try.underlying96
  by_cases hx : ∃ x ∈ Z, x.fr = f
  · obtain ⟨x, hx, rfl⟩ := hx
    have hlk : (Instr.lookup 96 (.map (some m)) (.int .i64 x.fr) false).run Try.prog w = .ok (.pointer (some ⟨x.g, 0, none⟩)) w := by
      obtain ⟨v, ps, hrun, hv⟩ := hm.lookup lawI Try.underlying96 (zeroP w) pel_zero (keyI x.fr hf)
      rw [hd.at' x hx] at hv
      rw [pel_at hv] at hrun
      exact hrun
    have H := hide h
    have HX := hide hx
    clear h hx hm hd
    go_enter Try.func40, Try.ntmps40
    go_wp2_with fail
    go_ret
    obtain ⟨Za, Zb, hZ⟩ := List.append_of_mem HX.out
    have hp : Z.Perm (x :: (Za ++ Zb)) := by rw [hZ]; exact List.perm_middle
    exact ⟨x, Za ++ Zb, F, some m, rfl, rfl, (H.out.perm hp.symm).up, .inl hp, Fr.refl _ _, fun i hi => .inl hi⟩
  · have hno : ∀ x ∈ Z, x.fr ≠ f := fun x h1 h2 => hx ⟨x, h1, h2⟩
    have HM := hide hm
    have HD := hide hd
    have HNO := hide hno
    have HB := hide h.b
    have HK := hide hK
    have HS := hide h
    have HFm : Hid (m < w.heap.size) := h.lt m (h.fm m rfl)
    have HFR : Hid (Fr F w w) := Fr.refl _ _
    have HFN : Hid (∀ i, F i → F i ∨ w.heap.size ≤ i) := fun i hi => .inl hi
    clear h hx hno hm hd hK
    have HFx : Hid (F m) := HS.out.fm m rfl
    go_enter Try.func40, Try.ntmps40
    have hlk0 : (Instr.lookup 96 (.map (some m)) (.int .i64 f) false).run Try.prog w = .ok (.pointer none) w := by
      obtain ⟨v, ps, hrun, hv⟩ := HM.out.lookup lawI Try.underlying96 (zeroP w) pel_zero (keyI f hf)
      rw [atKey_of_not_has (by rw [HD.out.has f, List.any_eq_false]; intro x hx; simpa using HNO.out x hx)] at hv
      rw [pel_nil hv] at hrun
      exact hrun
    have hmm := @run_makeMap Try.prog
    have cS1 : w.cell? ⟨s, 1, none⟩ = some (.map (some m)) := HB.out.cell 1 _ rfl
    have hk := keyI f hf
    have hlt : Z.length < maxLen := by have := HK.out; have := HS.out.few; unfold maxLen; omega
    have HLT := hide hlt
    have hbb : ∀ o1 o2, BxA ((w.alloc o1).alloc o2) s 98 #[.int .i64 most, .map (some m)] := fun o1 o2 => bx_alloc (bx_alloc HB.out o1) o2
    have cS2 : ∀ o1 o2, ((w.alloc o1).alloc o2).cell? ⟨s, 1, none⟩ = some (.map (some m)) := fun o1 o2 => (hbb o1 o2).cell 1 _ rfl
    clear hlt
    have HM2 := hide (fun o1 o2 => (HM.out.alloc o1).alloc o2)
    obtain ⟨w3, hrunS, hown3, hturn3⟩ := (HM2.out (.map #[] 0) (.cells #[.map (some w.heap.size), .slice none 0 0] 104)).store lawI Try.underlying96 HLT.out hk (val := .pointer (some ⟨w.heap.size + 1, 0, none⟩)) (d := .lit (.int .i64 ((w.heap.size + 1 : Nat) : Int))) (ps := []) rfl
    have HO3 := hide hown3
    have hg3 := hturn3.grown
    have HG3 := hide hg3
    have hb3 := bx_grown (hbb _ _) hg3 (bx_ne_map HB.out HM.out)
    have cS3 : w3.cell? ⟨s, 1, none⟩ = some (.map (some m)) := hb3.cell 1 _ rfl
    have HB3 := hide hb3
    obtain ⟨v3, ps3, hrun3, hv3⟩ := hown3.lookup lawI Try.underlying96 (zeroP w3) pel_zero hk
    rw [atKey_put_same (HM.out.tidy lawI).isMap (show WideAt.IsKeyLit (Lit.int .i64 f) from trivial)] at hv3
    rw [pel_at hv3] at hrun3
    clear hown3 hturn3 hg3 hb3 hv3
    go_wp2_with fail
    go_ret
    have HB4 := HB3.out
    have hS : SnZ w3 s (fun i => F i ∨ i = w.heap.size ∨ i = w.heap.size + 1) most (K + 1) (some m) (⟨f, w.heap.size + 1, w.heap.size, .slice none 0 0, []⟩ :: Z) := rowOf_new (HS.out) HD.out HNO.out hf HO3.out HG3.out (HM.out.tidy lawI) HB4 HK.out
    refine ⟨⟨f, w.heap.size + 1, w.heap.size, .slice none 0 0, []⟩, Z, _, _, rfl, rfl, hS, .inr ⟨rfl, rfl, HNO.out⟩, ?_, ?_⟩
    · refine HFR.out.trans ((Fr.of_below (F := fun i => i = m) (((Below.refl _ _).alloc (Nat.le_refl _) _).alloc (by simp) _)).trans (Fr.of_grown (F := fun i => i = m) HG3.out fun j hj => .inl (by injection hj with hj; exact hj.symm)) fun _ _ h => h) fun i hi h => ?_
      rw [h]
      exact HFx.out
    · intro i hi
      rcases hi with h | h | h
      · exact HFN.out i h
      · right; have := HFR.out.size; omega
      · right; have := HFR.out.size; omega
set_option maxRecDepth 20000 in
set_option maxHeartbeats 4000000 in
theorem rowOf_none (w : World) (s K : Nat) (F : Nat → Prop) (most f : Int) (Z : List Rw) (h : SnZ w s F most K none Z) (hK : K < 1000000) (hf : B64 f) :
    Calls Try.prog 40 #[.pointer (some ⟨s, 0, none⟩), .int .i64 f] w fun e w' => RowOf w w' s F most K Z f e := by
  obtain rfl : Z = [] := by
    rcases h.m with ⟨_, e1⟩ | ⟨m', D', e1, hm', hd'⟩
    · exact e1
    · cases e1
  have c1 : w.cell? ⟨s, 1, none⟩ = some (.map none) := h.b.cell 1 _ rfl
  have f1 := h.b.free 1
  have hnil : (binOp .eql 96 (.map none) (.map none)).run Try.prog w = .ok (.bool true) w := run_eql_map_nil _ _ _ _ _ Try.underlying96
  have hmm := @run_makeMap Try.prog
  have hsl := h.b.lt
  have hb0 : BxA ((w.setCell ⟨s, 1, none⟩ (.map (some w.heap.size))).alloc (.map #[] 0)) s 98 #[.int .i64 most, .map (some w.heap.size)] := bx_alloc (h.b.set 1 _) (.map #[] 0)
  have a1 : (w.alloc (.map #[] 0)).cell? ⟨s, 1, none⟩ = some (.map none) := (bx_alloc h.b (.map #[] 0)).cell 1 _ rfl
  have af : (w.alloc (.map #[] 0)).frozen? ⟨s, 1, none⟩ = false := (bx_alloc h.b (.map #[] 0)).free 1
  have hm0 : ((w.setCell ⟨s, 1, none⟩ (.map (some w.heap.size))).alloc (.map #[] 0)).ownsMap Try.prog 3 pel w.heap.size 0 (.map []) := by
    have h0 := World.ownsMap_made (w.setCell ⟨s, 1, none⟩ (.map (some w.heap.size))) Try.prog 3 pel
    rw [show (w.setCell ⟨s, 1, none⟩ (.map (some w.heap.size))).heap.size = w.heap.size by simp] at h0
    exact h0
  have hd0 : MR (.map []) [] := ⟨(fun _ h => by cases h), fun f => by simp [Maps.has], rfl⟩
  have HH := hide h
  have hs0 : SnZ ((w.setCell ⟨s, 1, none⟩ (.map (some w.heap.size))).alloc (.map #[] 0)) s (fun i => F i ∨ i = w.heap.size) most K (some w.heap.size) [] :=
    ⟨hb0, .inl h.f, .inr ⟨_, _, rfl, hm0, hd0⟩, fun m e => .inr (by injection e with e; exact e.symm), (fun _ h => by cases h), .nil, Nat.zero_le _, (fun _ h => by cases h), fun i hi => by
      simp
      rcases hi with hi | hi
      · have := HH.out.lt i hi; omega
      · omega⟩
  have hfr : Fr F w ((w.setCell ⟨s, 1, none⟩ (.map (some w.heap.size))).alloc (.map #[] 0)) := (Fr.of_grown (F := F) grown_setCell fun j hj => .inl (by cases hj; exact HH.out.f)).trans (Fr.of_below (F := F) ((Below.refl _ _).alloc (Nat.le_refl _) _)) fun _ _ h => h
  obtain ⟨m, hm⟩ : ∃ m, m = w.heap.size := ⟨_, rfl⟩
  rw [← hm] at hb0 hm0 hs0 hfr
  obtain ⟨W1, hW1⟩ : ∃ W1, W1 = (w.setCell ⟨s, 1, none⟩ (.map (some m))).alloc (.map #[] 0) := ⟨_, rfl⟩
  rw [← hW1] at hb0 hm0 hs0 hfr
  obtain ⟨F1, hF1⟩ : ∃ F1 : Nat → Prop, F1 = fun i => F i ∨ i = m := ⟨_, rfl⟩
  rw [← hF1] at hs0
  obtain ⟨Z, hZ⟩ : ∃ Z : List Rw, Z = [] := ⟨_, rfl⟩
  rw [← hZ] at hs0 hd0
  have hno : ∀ x ∈ Z, x.fr ≠ f := fun x h => by rw [hZ] at h; cases h
  obtain ⟨D, hD⟩ : ∃ D : DataW Unit, D = .map [] := ⟨_, rfl⟩
  rw [← hD] at hd0 hm0
  have hm0 : W1.ownsMap Try.prog 3 pel m Z.length D := by rw [hZ]; exact hm0
  have HM := hide hm0
  have HD := hide hd0
  have HNO := hide hno
  have HB := hide hb0
  have HK := hide hK
  have HS := hide hs0
  have HFR := hide hfr
  have HFN : Hid (∀ i, F1 i → F i ∨ w.heap.size ≤ i) := by
    apply hide
    rw [hF1]
    intro i hi
    rcases hi with hi | hi
    · exact .inl hi
    · exact .inr (by omega)
  have HMM := hide hm
  have HWW := hide hW1
  clear h hno hm0 hd0 hb0 hs0 hfr hF1 hD hK
  have b1 : W1.cell? ⟨s, 1, none⟩ = some (.map (some m)) := HB.out.cell 1 _ rfl
  have hlkE : (Instr.lookup 96 (.map (some m)) (.int .i64 f) false).run Try.prog W1 = .ok (.pointer none) W1 := by
    obtain ⟨v, ps, hrun, hv⟩ := HM.out.lookup lawI Try.underlying96 (zeroP W1) pel_zero (keyI f hf)
    rw [atKey_of_not_has (by rw [HD.out.has f, List.any_eq_false]; intro x hx; simpa using HNO.out x hx)] at hv
    rw [pel_nil hv] at hrun
    exact hrun
  rw [hW1, hm] at hlkE
  go_enter Try.func40, Try.ntmps40
  rw [← hZ]
  go_upto_region 4 with fail
  rw [← hm, ← hW1]
  clear hW1 hm hZ hlkE
  have hlk0 : (Instr.lookup 96 (.map (some m)) (.int .i64 f) false).run Try.prog W1 = .ok (.pointer none) W1 := by
    obtain ⟨v, ps, hrun, hv⟩ := HM.out.lookup lawI Try.underlying96 (zeroP W1) pel_zero (keyI f hf)
    rw [atKey_of_not_has (by rw [HD.out.has f, List.any_eq_false]; intro x hx; simpa using HNO.out x hx)] at hv
    rw [pel_nil hv] at hrun
    exact hrun
  have hmm := @run_makeMap Try.prog
  have cS1 : W1.cell? ⟨s, 1, none⟩ = some (.map (some m)) := HB.out.cell 1 _ rfl
  have hk := keyI f hf
  have hlt : Z.length < maxLen := by have := HK.out; have := HS.out.few; unfold maxLen; omega
  have HLT := hide hlt
  have hbb : ∀ o1 o2, BxA ((W1.alloc o1).alloc o2) s 98 #[.int .i64 most, .map (some m)] := fun o1 o2 => bx_alloc (bx_alloc HB.out o1) o2
  have cS2 : ∀ o1 o2, ((W1.alloc o1).alloc o2).cell? ⟨s, 1, none⟩ = some (.map (some m)) := fun o1 o2 => (hbb o1 o2).cell 1 _ rfl
  clear hlt
  have HM2 := hide (fun o1 o2 => (HM.out.alloc o1).alloc o2)
  obtain ⟨w3, hrunS, hown3, hturn3⟩ := (HM2.out (.map #[] 0) (.cells #[.map (some W1.heap.size), .slice none 0 0] 104)).store lawI Try.underlying96 HLT.out hk (val := .pointer (some ⟨W1.heap.size + 1, 0, none⟩)) (d := .lit (.int .i64 ((W1.heap.size + 1 : Nat) : Int))) (ps := []) rfl
  have HO3 := hide hown3
  have hg3 := hturn3.grown
  have HG3 := hide hg3
  have hb3 := bx_grown (hbb _ _) hg3 (bx_ne_map HB.out HM.out)
  have cS3 : w3.cell? ⟨s, 1, none⟩ = some (.map (some m)) := hb3.cell 1 _ rfl
  have HB3 := hide hb3
  obtain ⟨v3, ps3, hrun3, hv3⟩ := hown3.lookup lawI Try.underlying96 (zeroP w3) pel_zero hk
  rw [atKey_put_same (HM.out.tidy lawI).isMap (show WideAt.IsKeyLit (Lit.int .i64 f) from trivial)] at hv3
  rw [pel_at hv3] at hrun3
  clear hown3 hturn3 hg3 hb3 hv3
  go_wp2_with fail
  go_ret
  have HB4 := HB3.out
  have hS : SnZ w3 s (fun i => F1 i ∨ i = W1.heap.size ∨ i = W1.heap.size + 1) most (K + 1) (some m) (⟨f, W1.heap.size + 1, W1.heap.size, .slice none 0 0, []⟩ :: Z) := rowOf_new (HS.out) HD.out HNO.out hf HO3.out HG3.out (HM.out.tidy lawI) HB4 HK.out
  refine ⟨⟨f, W1.heap.size + 1, W1.heap.size, .slice none 0 0, []⟩, Z, _, _, rfl, rfl, hS, .inr ⟨rfl, rfl, HNO.out⟩, ?_, ?_⟩
  · refine (HFR.out.trans (G := fun i => i = m) ((Fr.of_below (F := fun i => i = m) (((Below.refl _ _).alloc (Nat.le_refl _) _).alloc (by simp) _)).trans (Fr.of_grown (F := fun i => i = m) HG3.out fun j hj => .inl (by injection hj with hj; exact hj.symm)) fun _ _ h => h) fun i hi h => ?_)
    have := HMM.out; omega
  · intro i hi
    rcases hi with h | h | h
    · exact HFN.out i h
    · right; have := HFR.out.size; omega
    · right; have := HFR.out.size; omega
theorem rowOf_any (w : World) (s K : Nat) (F : Nat → Prop) (most f : Int) (mo : Option Nat) (Z : List Rw) (h : SnZ w s F most K mo Z) (hK : K < 1000000) (hf : B64 f) :
    Calls Try.prog 40 #[.pointer (some ⟨s, 0, none⟩), .int .i64 f] w fun e w' => RowOf w w' s F most K Z f e := by
  cases mo with
  | none => exact rowOf_none w s K F most f Z h hK hf
  | some m => exact rowOf_some w s K m F most f Z h hK hf
end Go.Proofs.Ytnkllgpibmofiaa
