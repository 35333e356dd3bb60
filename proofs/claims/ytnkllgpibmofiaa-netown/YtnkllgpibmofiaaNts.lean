/- Send, of a message without lists. -/
import Derived.Test.YtnkllgpibmofiaaNtm
import Derived.Laws.CopyRow
namespace Go.Proofs.Ytnkllgpibmofiaa
open Go.RowKit Go.Maps Go.Sort
set_option linter.unusedVariables false

theorem Pl.setId {M : Array Value} (h : Pl M) (x : Nat) : Pl (M.setIfInBounds 3 (.int .u64 (x : Int))) := by
  have hs : ∀ o, o ≠ 3 → (M.setIfInBounds 3 (.int .u64 (x : Int)))[o]? = M[o]? := fun o ho => by
    rw [Array.getElem?_setIfInBounds, if_neg (by omega)]
  obtain ⟨t, hft⟩ := h.ft
  obtain ⟨f, t', k, d, lo, hi, g, gr, ro, hqr⟩ := h.qr
  refine ⟨by simp [h.sz], ?_, ⟨t, fun j v hj => ?_⟩, ⟨f, t', k, d, lo, hi, g, gr, ro, fun j v hj => ?_⟩, ?_, ?_⟩
  · rw [Array.all_eq_true_iff_forall_mem]
    intro v hv
    obtain ⟨i, hi, e⟩ := Array.getElem_of_mem hv
    have e' : (M.setIfInBounds 3 (.int .u64 (x : Int)))[i]? = some v := by rw [Array.getElem?_eq_getElem hi, e]
    rw [Array.getElem?_setIfInBounds] at e'
    split at e'
    · split at e'
      · cases e'; rfl
      · cases e'
    · exact (Array.all_eq_true_iff_forall_mem.1 h.one) _ (Array.mem_of_getElem? e')
  · rw [hs _ (by omega)]; exact hft j v hj
  · rw [hs _ (by omega)]; exact hqr j v hj
  · rw [hs _ (by omega)]; exact h.sg
  · rw [hs _ (by omega)]; exact h.gp
theorem bx_grown2 {w w' : World} {g : Nat} {t : TypeId} {cs : Array Value} {r : Option Nat} (h : BxA w g t cs) (hg : w.grownBy w' r) (hn : some g ≠ r) : BxA w' g t cs := by
  unfold BxA at h ⊢
  rw [hg.block g (Array.getElem?_eq_some_iff.1 h).1 hn]
  exact h
theorem own_ne_bx {w : World} {base e n g : Nat} {v : Value} {xs : List Value} {t : TypeId} {cs : Array Value} (h : w.ownsRow base e 1 v n xs) (hb : BxA w g t cs) (ht : e ≠ t) : some g ≠ v.ownBlock := fun e1 => by
  have hd : w.heap[g]? = _ := hb
  rcases h.2 with ⟨h1, _⟩ | ⟨g', cap, cur, h1, _, h3, _⟩
  · rw [h1] at e1; cases e1
  · rw [h1] at e1
    simp only [Value.ownBlock, Option.some.injEq] at e1
    rw [← e1, hd] at h3
    simp only [Option.some.injEq, Obj.cells.injEq] at h3
    exact ht h3.2.1.symm
theorem lit1p (w : World) (u : Value) : RdsK 1 (w.alloc (.cells #[u] 91)) (.slice (some ⟨w.heap.size, 0, none⟩) 1 1) 1 [u] := by
  refine ⟨some ⟨w.heap.size, 0, none⟩, 1, rfl, by simp, Nat.le_refl _, by decide, (fun h => by cases h), ?_⟩
  rintro ad ⟨rfl⟩
  intro j v hj
  have hj0 : j = 0 := by
    cases j with
    | zero => rfl
    | succ j => simp at hj
  subst hj0
  simp only [List.getElem?_cons_zero, Option.some.injEq] at hj
  subst hj
  have hb : BxA (w.alloc (.cells #[u] 91)) w.heap.size 91 #[u] := BxA.new _ _ _
  exact hb.cell 0 u rfl
theorem bx_alloc2 {w : World} {g : Nat} {t : TypeId} {cs : Array Value} (h : BxA w g t cs) (o : Obj) : BxA (w.alloc o) g t cs := by
  unfold BxA at h ⊢
  rw [Below.heap_alloc w o g (Array.getElem?_eq_some_iff.1 h).1]
  exact h
set_option maxRecDepth 20000 in
set_option maxHeartbeats 4000000 in
theorem send_any (w : World) (n sent : Nat) (F : Nat → Prop) (v : Value) (Z : List Gm) (M : Array Value) (h : NtZ w n F sent v Z) (hM : Pl M) (hs : sent ≤ 1000000) (hz : Z.length ≤ 1000000) :
    Calls Try.prog 13 #[.pointer (some ⟨n, 0, none⟩), .agg M] w fun e w' => e = .returned (.int .u64 ((sent + 1 : Nat) : Int)) ∧ ∃ F' v' g, NtZ w' n F' (sent + 1) v' (Z ++ [(g, M.setIfInBounds 3 (.int .u64 ((sent + 1 : Nat) : Int)))]) ∧ Fr F w w' ∧ (∀ i, F' i → F i ∨ w.heap.size ≤ i) := by
  obtain ⟨a, c, hv⟩ := own_sl h.o
  subst hv
  have c0 : w.cell? ⟨n, 0, none⟩ = some (.int .u64 (sent : Int)) := h.b.cell 0 _ rfl
  have f0 := h.b.free 0
  have hnl := h.b.lt
  have H := hide h
  have HM := hide hM
  obtain ⟨s1, hs1⟩ : ∃ s1 : Nat, s1 = sent + 1 := ⟨_, rfl⟩
  have hs1z : (sent : Int) + 1 = (s1 : Int) := by omega
  rw [← hs1]
  have HS1 := hide hs1
  clear h hM hs1
  obtain ⟨W, hW⟩ : ∃ W, W = (w.setCell ⟨n, 0, none⟩ (.int .u64 (s1 : Int))).alloc (.cells M 54) := ⟨_, rfl⟩
  have hWM : BxA W w.heap.size 54 M := by
    have := BxA.new (w.setCell ⟨n, 0, none⟩ (.int .u64 (s1 : Int))) 54 M
    rw [show (w.setCell ⟨n, 0, none⟩ (.int .u64 (s1 : Int))).heap.size = w.heap.size by simp, ← hW] at this
    exact this
  have hWN : BxA W n 89 #[.int .u64 (s1 : Int), .slice a Z.length c] := by
    rw [hW]
    exact bx_alloc2 (H.out.b.set 0 _) _
  have hWF : Fr F w W := by
    rw [hW]
    exact (Fr.of_grown (F := F) grown_setCell fun j hj => .inl (by cases hj; exact H.out.f)).trans (Fr.of_below (F := F) ((Below.refl _ _).alloc (Nat.le_refl _) _)) fun _ _ h => h
  have hWs : W.heap.size = w.heap.size + 1 := by rw [hW]; simp
  have hWO : ∀ i, i ≠ n → i < w.heap.size → W.heap[i]? = w.heap[i]? := fun i hi hl => by
    rw [hW, Below.heap_alloc _ _ i (by simp; exact hl), Below.heap_setCell _ _ _ _ hi]
  have HI : Hid ((Try.prog.info? 54).map (·.size) = some M.size) := by apply hide; rw [HM.out.sz]; exact Try.info_msg
  have H1 := hide HM.out.one
  have kC := fun w => copied_plain w M HM.out
  obtain ⟨u3, hu3⟩ : ∃ u, M[3]? = some u := ⟨_, Array.getElem?_eq_getElem (by rw [HM.out.sz]; omega)⟩
  obtain ⟨m, hm⟩ : ∃ m, m = Z.length := ⟨_, rfl⟩
  have HMZ := hide hm
  rw [← hm] at hWN hz
  have HWM := hide hWM
  have HWN := hide hWN
  have HWF := hide hWF
  have HWS := hide hWs
  have HWO := hide hWO
  have HWE := hide hW
  have HU3 := hide hu3
  obtain ⟨i0, hi0, hz0, hz1, hz2⟩ := info_parts Try.info_pm
  obtain ⟨M3, hM3⟩ : ∃ M3, M3 = M.setIfInBounds 3 (.int .u64 (s1 : Int)) := ⟨_, rfl⟩
  have HM3 := hide hM3
  clear hWM hWN hWF hWs hWO hu3 hm hM3
  rw [← HM3.out]
  go_enter Try.func13, Try.ntmps13
  go_wp2_with (refine wpList_load_row rfl 54 (.tmp 3) rfl w.heap.size rfl 54 M (0, 0) _ (by rw [← hW]; exact HWM.out) Try.underlying54 rfl HI.out ?_)
  rw [← hW]
  clear hW c0 f0
  go_at_call 35
  refine (kC _).mono ?_
  rintro e w1 ⟨he1, hg1⟩
  subst he1
  have hb1 : BxA w1 w.heap.size 54 M := BxA.up HWM.out hg1.below
  have hn1 : BxA w1 n 89 #[.int .u64 (s1 : Int), .slice a m c] := BxA.up HWN.out hg1.below
  have hz1' : w.heap.size < w1.heap.size := hb1.lt
  have hgz : ¬ n = w.heap.size := by omega
  have b0 : w1.cell? ⟨n, 0, none⟩ = some (.int .u64 (s1 : Int)) := hn1.cell 0 _ rfl
  have b3 : w1.cell? ⟨w.heap.size, 3, none⟩ = some u3 := hb1.cell 3 _ HU3.out
  have g3 := hb1.free 3
  have hb2 : BxA (w1.setCell ⟨w.heap.size, 3, none⟩ (.int .u64 (s1 : Int))) w.heap.size 54 M3 := by rw [HM3.out]; exact hb1.set 3 _
  have hn2 : BxA (w1.setCell ⟨w.heap.size, 3, none⟩ (.int .u64 (s1 : Int))) n 89 #[.int .u64 (s1 : Int), .slice a m c] := BxA.setCells' (fun i hi => Below.heap_setCell _ _ _ _ hi) hn1 hgz
  have b1 : (w1.setCell ⟨w.heap.size, 3, none⟩ (.int .u64 (s1 : Int))).cell? ⟨n, 1, none⟩ = some (.slice a m c) := hn2.cell 1 _ rfl
  have HB1 := hide hb1
  have HB2 := hide hb2
  have HN2 := hide hn2
  have HG1 := hide hg1.below
  clear hb1 hn1 hb2 hn2 hg1 kC
  have hB3 : Below (w1.setCell ⟨w.heap.size, 3, none⟩ (.int .u64 (s1 : Int))).heap.size (w1.setCell ⟨w.heap.size, 3, none⟩ (.int .u64 (s1 : Int))) ((w1.setCell ⟨w.heap.size, 3, none⟩ (.int .u64 (s1 : Int))).alloc (.cells #[.pointer (some ⟨w.heap.size, 0, none⟩)] 91)) := (Below.refl _ _).alloc (Nat.le_refl _) _
  have HB3 := hide hB3
  have HFW1 : Hid (Fr F w (w1.setCell ⟨w.heap.size, 3, none⟩ (.int .u64 (s1 : Int)))) := hide (((HWF.out.trans (Fr.of_below (F := F) HG1.out) fun _ _ h => h)).trans (Fr.of_grown (F := fun i => i = w.heap.size) grown_setCell fun j hj => .inl (by cases hj; rfl)) fun i hi h => by omega)
  have HO3 : Hid (((w1.setCell ⟨w.heap.size, 3, none⟩ (.int .u64 (s1 : Int))).alloc (.cells #[.pointer (some ⟨w.heap.size, 0, none⟩)] 91)).ownsRow 0 91 1 (.slice a m c) m (pvs Z)) := by
    apply hide
    have ho := H.out.o
    rw [← HMZ.out] at ho
    refine ⟨ho.1, ?_⟩
    rcases ho.2 with h2 | ⟨g', cap, cur, e1, e2, e3, e4⟩
    · exact .inl h2
    · refine .inr ⟨g', cap, cur, e1, e2, ?_, e4⟩
      have hl := (Array.getElem?_eq_some_iff.1 e3).1
      have hne : g' ≠ n := fun e => by
        have hd : w.heap[n]? = _ := H.out.b
        rw [e, hd] at e3
        simp only [Option.some.injEq, Obj.cells.injEq] at e3
        exact absurd e3.2.1 (by decide)
      rw [Below.heap_alloc _ _ g' (by have := HFW1.out.size; omega), Below.heap_setCell _ _ _ _ (by show g' ≠ w.heap.size; omega), HG1.out.block g' (by have := HWF.out.size; omega), HWO.out g' hne hl]
      exact e3
  have HX3 : Hid (RdsK 1 ((w1.setCell ⟨w.heap.size, 3, none⟩ (.int .u64 (s1 : Int))).alloc (.cells #[.pointer (some ⟨w.heap.size, 0, none⟩)] 91)) (.slice (some ⟨w1.heap.size, 0, none⟩) 1 1) 1 [.pointer (some ⟨w.heap.size, 0, none⟩)]) := by
    apply hide
    have := lit1p (w1.setCell ⟨w.heap.size, 3, none⟩ (.int .u64 (s1 : Int))) (.pointer (some ⟨w.heap.size, 0, none⟩))
    rw [show (w1.setCell ⟨w.heap.size, 3, none⟩ (.int .u64 (s1 : Int))).heap.size = w1.heap.size by simp] at this
    exact this
  have HQ : Hid (m + 1 ≤ maxLen ∧ ((m + 1) + (m + 1) / 4 + 192) * 8 ≤ 281474976710656) := by apply hide; unfold maxLen; omega
  have HN3 : Hid (BxA ((w1.setCell ⟨w.heap.size, 3, none⟩ (.int .u64 (s1 : Int))).alloc (.cells #[.pointer (some ⟨w.heap.size, 0, none⟩)] 91)) n 89 #[.int .u64 (s1 : Int), .slice a m c]) := hide (bx_alloc2 HN2.out _)
  have HM4 : Hid (BxA ((w1.setCell ⟨w.heap.size, 3, none⟩ (.int .u64 (s1 : Int))).alloc (.cells #[.pointer (some ⟨w.heap.size, 0, none⟩)] 91)) w.heap.size 54 M3) := hide (bx_alloc2 HB2.out _)
  have b1' : ((w1.setCell ⟨w.heap.size, 3, none⟩ (.int .u64 (s1 : Int))).alloc (.cells #[.pointer (some ⟨w.heap.size, 0, none⟩)] 91)).cell? ⟨n, 1, none⟩ = some (.slice a m c) := HN3.out.cell 1 _ rfl
  have HM33 : Hid (M3[3]? = some (.int .u64 (s1 : Int))) := by
    apply hide
    rw [HM3.out, Array.getElem?_setIfInBounds, if_pos rfl, if_pos (by rw [HM.out.sz]; omega)]
  clear hB3
  go_wp2_with (first
    | (refine wpList_store_row rfl 54 (.tmp 3) (.tmp 15) rfl w.heap.size M rfl rfl 54 M HB1.out HI.out rfl H1.out ?_; rw [setRow_self _ _ _ _ _ HB1.out])
    | (at_builtin; refine wpList_appF rfl _ _ 87 rfl 0 91 i0 _ 1 8 Try.underlying87 hi0 hz0 hz1 hz2 rfl (by decide) (.slice a m c) m (pvs Z) rfl HO3.out (.slice (some ⟨w1.heap.size, 0, none⟩) 1 1) 1 [.pointer (some ⟨w.heap.size, 0, none⟩)] rfl HX3.out (fun u hu => by simp only [List.mem_cons, List.not_mem_nil, or_false] at hu; subst hu; rfl) HQ.out.1 HQ.out.2 (Nat.zero_le _) ?_; intro v4 w4 o4 g4 p4; obtain ⟨a4, c4, hx4⟩ := own_sl o4; subst hx4; have HO4 := hide o4; have HG4 := hide g4; have HP4 := hide p4; have hn4 : BxA w4 n 89 #[.int .u64 (s1 : Int), .slice a m c] := bx_grown2 HN3.out g4 (own_ne_bx HO3.out HN3.out (by decide)); have hm4 : BxA w4 w.heap.size 54 M3 := bx_grown2 HM4.out g4 (own_ne_bx HO3.out HM4.out (by decide)); have HN4 := hide hn4; have HM5 := hide hm4; have q1 := hn4.cell 1 _ rfl; have qf := hn4.free 1; have q3 : (w4.setCell ⟨n, 1, none⟩ (.slice a4 (m + 1) c4)).cell? ⟨w.heap.size, 3, none⟩ = some (.int .u64 (s1 : Int)) := (BxA.setCells' (fun i hi => Below.heap_setCell w4 ⟨n, 1, none⟩ _ _ hi) hm4 (fun e => hgz e.symm)).cell 3 _ HM33.out; clear o4 g4 p4 hn4 hm4))
  go_ret
  have hne : (Value.ownBlock (.slice a4 (m + 1) c4)) ≠ some n := fun e => own_ne_bx HO4.out HN4.out (by decide) e.symm
  refine ⟨rfl, fun i => F i ∨ i = w.heap.size ∨ Value.ownBlock (.slice a4 (m + 1) c4) = some i, .slice a4 (m + 1) c4, w.heap.size, ⟨?_, .inl H.out.f, ?_, fun r hr => .inr (.inr hr), ?_, ?_⟩, ?_, ?_⟩
  · exact HN4.out.set 1 _
  · have := ownsRow_setCell_other HO4.out (a := ⟨n, 1, none⟩) hne (.slice a4 (m + 1) c4)
    rw [List.length_append, List.length_singleton, ← HMZ.out, pvs_append]
    exact this
  · intro x hx
    rcases List.mem_append.1 hx with hx | hx
    · obtain ⟨e1, e2, e3⟩ := H.out.e x hx
      have hxn : x.1 ≠ n := fun e => by
        have hd : w.heap[n]? = _ := H.out.b
        have hx : w.heap[x.1]? = _ := e1
        rw [e, hd] at hx
        simp only [Option.some.injEq, Obj.cells.injEq] at hx
        exact absurd hx.2.1 (by decide)
      have hxv : Value.ownBlock (.slice a m c) ≠ some x.1 := fun e => own_ne_bx (by have := H.out.o; rw [← HMZ.out] at this; exact this) e1 (by decide) e.symm
      have hlx := e1.lt
      refine ⟨?_, e2, .inl e3⟩
      unfold BxA at e1 ⊢
      rw [Below.heap_setCell _ _ _ _ (show x.1 ≠ n from hxn), HG4.out.block x.1 (by simp; have := HWF.out.size; have := HG1.out.size; omega) (fun e => hxv e.symm), Below.heap_alloc _ _ x.1 (by simp; have := HWF.out.size; have := HG1.out.size; omega), Below.heap_setCell _ _ _ _ (show x.1 ≠ w.heap.size by omega), HG1.out.block x.1 (by have := HWF.out.size; omega), HWO.out x.1 hxn hlx]
      exact e1
    · simp only [List.mem_cons, List.not_mem_nil, or_false] at hx
      subst hx
      refine ⟨BxA.setCells' (fun i hi => Below.heap_setCell w4 ⟨n, 1, none⟩ _ _ hi) HM5.out (fun e => hgz e.symm), ?_, .inr (.inl rfl)⟩
      rw [HM3.out]
      exact HM.out.setId s1
  · intro i hi
    have h4 := HG4.out.size
    simp at h4 ⊢
    rcases hi with hi | hi | hi
    · have := H.out.lt i hi; have := HWF.out.size; have := HG1.out.size; omega
    · omega
    · exact (World.ownsRow.lt HO4.out i hi).2
  · refine (((HFW1.out.trans (Fr.of_below (F := F) HB3.out) fun _ _ h => h).trans (Fr.of_grown (F := F) HG4.out fun j hj => .inl (H.out.fv j (by rw [← HMZ.out]; exact hj))) fun _ _ h => h).trans (Fr.of_grown (F := F) grown_setCell fun j hj => .inl (by cases hj; exact H.out.f)) fun _ _ h => h)
  · intro i hi
    rcases hi with hi | hi | hi
    · exact .inl hi
    · exact .inr (by omega)
    · rcases HP4.out with e | ⟨b, e, hb⟩
      · left; exact H.out.fv i (by rw [← HMZ.out, ← e]; exact hi)
      · right
        rw [e] at hi
        injection hi with hi
        have := HB3.out.size
        have := HFW1.out.size
        omega
end Go.Proofs.Ytnkllgpibmofiaa
