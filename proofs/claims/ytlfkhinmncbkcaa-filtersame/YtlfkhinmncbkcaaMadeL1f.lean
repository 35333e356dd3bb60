/- made, one way through it. -/
import Derived.Test.YtlfkhinmncbkcaaMadeG
namespace Go.Proofs.Ytlfkhinmncbkcaa
open Go.RowKit Go.Sort

set_option maxHeartbeats 16000000 in
theorem made_leaf1false (N : Nat) (ih : MadeC N) (t : Tr) (ht : SizeOf.sizeOf t < N + 1) (w : World) (h : t.Ok w) (lim : t.Lim) (hz : t.sz ≤ 1000) (h2 : t.k ≠ 2) (h3 : t.k ≠ 3) (h4 : t.k ≠ 4) :
    Calls Try.prog 31 #[.agg #[.int .i64 t.k, .int .i64 t.d, t.tv, .int .i64 t.lo, .int .i64 t.hi, t.kv], .bool false] w fun e w' =>
    ∃ t' : Tr, e = .returned (.agg #[.int .i64 t'.k, .int .i64 t'.d, t'.tv, .int .i64 t'.lo, .int .i64 t'.hi, t'.kv]) ∧ t'.Ok w' ∧ t'.From w.heap.size ∧ t'.er = t.turn false ∧ Below w.heap.size w w' := by
  obtain ⟨at', nt, ct, ak, nk, ck, e1, e2, hnk, hc1, hc2, hc3⟩ := h.lens
  unfold maxLen at hc2
  obtain ⟨W, hW⟩ : ∃ W, W = (w.alloc (.cells #[.int .i64 t.k, .int .i64 t.d, t.tv, .int .i64 t.lo, .int .i64 t.hi, t.kv] 27)).alloc (.cells #[.int .i64 0, .int .i64 0, .slice none 0 0, .int .i64 0, .int .i64 0, .slice none 0 0] 27) := ⟨_, rfl⟩
  have gW : Grows w W := by rw [hW]; exact (Grows.alloc _ _).trans (Grows.alloc _ _)
  have zW : W.heap.size = w.heap.size + 2 := by rw [hW]; simp
  have okW := h.up gW.below
  have hbox : ∀ w5, Below W.heap.size W w5 → (∀ c u, (#[.int .i64 t.k, .int .i64 t.d, t.tv, .int .i64 t.lo, .int .i64 t.hi, t.kv] : Array Value)[c]? = some u → w5.cell? ⟨w.heap.size, c, none⟩ = some u) ∧ (∀ c u, (#[Value.int .i64 0, .int .i64 0, .slice none 0 0, .int .i64 0, .int .i64 0, .slice none 0 0])[c]? = some u → w5.cell? ⟨w.heap.size + 1, c, none⟩ = some u) ∧ ∀ c, w5.frozen? ⟨w.heap.size + 1, c, none⟩ = false := fun w5 h5 => by
    have hs : w.heap.size + 1 = (w.alloc (.cells #[.int .i64 t.k, .int .i64 t.d, t.tv, .int .i64 t.lo, .int .i64 t.hi, t.kv] 27)).heap.size := by simp
    refine ⟨fun c u hc => ?_, fun c u hc => ?_, fun c => ?_⟩
    · rw [h5.cell (by rw [zW]; show w.heap.size < _; omega), hW]
      refine cell_alloc_sl _ ?_
      simpa using hc
    · rw [h5.cell (by rw [zW]; show w.heap.size + 1 < _; omega), hW, hs]
      simpa using hc
    · rw [h5.frozen (by rw [zW]; show w.heap.size + 1 < _; omega), hW, hs]
      simp
  have HBX : Aside _ := hbox
  have HG : Hid (Grows w W) := gW
  have HZW : Hid (W.heap.size = w.heap.size + 2) := zW
  have HW : Hid _ := hW
  have HO : Hid (t.Ok W ∧ t.Lim ∧ t.sz ≤ 1000 ∧ SizeOf.sizeOf t < N + 1) := ⟨okW, lim, hz, ht⟩
  have HE : Hid (t.tv = .slice at' nt ct ∧ t.kv = .slice ak nk ck) := ⟨e1, e2⟩
  have HI : Aside _ := ih
  have HNK : Hid (nk = t.ks.length) := hnk
  rw [e1, e2] at HW ⊢
  clear h ht lim hz gW zW hW okW hbox ih e1 e2 hnk hc3
  have hT := turn_leaf h3 h4 (kids_none h2 h3 h4) false
  have HT : Hid _ := hT
  have c2 : (t.k == 2) = false := by simp [h2]
  have c3 : (t.k == 3) = false := by simp [h3]
  have c4 : (t.k == 4) = false := by simp [h4]
  clear hT h2 h3 h4
  have kO := own_any W t HO.out.1
  obtain ⟨ao, no, co, f1⟩ := (own_rt HO.out.1).sl
  rw [HE.out.1, HE.out.2, own_kv, f1, HW.out] at kO
  have HOV : Hid (t.own.tv = .slice ao no co) := f1
  clear f1
  go_enter Try.func31, Try.ntmps31
  go_wp2_with fail
  refine kO.mono ?_
  rintro e w5 ⟨rfl, g5⟩
  rw [← HW.out] at g5
  clear kO
  obtain ⟨V, hV⟩ : ∃ V, V = w5.alloc (.cells #[.int .i64 t.own.k, .int .i64 t.own.d, .slice ao no co, .int .i64 t.own.lo, .int .i64 t.own.hi, .slice none 0 0] 27) := ⟨_, rfl⟩
  have gV : Grows w5 V := by rw [hV]; exact Grows.alloc _ _
  have zV : V.heap.size = w5.heap.size + 1 := by rw [hV]; simp
  have kC := clone_any V t.own.tv t.own.ts (own_rt (HO.out.1.up (g5.trans gV).below)) (Nat.le_trans (own_len HO.out.2.1) (by decide))
  rw [HOV.out, hV] at kC
  have hbv : ∀ w7, Below V.heap.size V w7 → (∀ c u, (#[Value.int .i64 t.own.k, .int .i64 t.own.d, .slice ao no co, .int .i64 t.own.lo, .int .i64 t.own.hi, .slice none 0 0])[c]? = some u → w7.cell? ⟨w5.heap.size, c, none⟩ = some u) ∧ ∀ c, w7.frozen? ⟨w5.heap.size, c, none⟩ = false := fun w7 h7 => by
    refine ⟨fun c u hc => ?_, fun c => ?_⟩
    · rw [h7.cell (by rw [zV]; show w5.heap.size < _; omega), hV]
      simpa using hc
    · rw [h7.frozen (by rw [zV]; show w5.heap.size < _; omega), hV]
      simp
  have HBV : Aside _ := hbv
  have HZ5 : Hid (W.heap.size ≤ w5.heap.size ∧ V.heap.size = w5.heap.size + 1) := ⟨g5.below.size, zV⟩
  have HGV : Hid (Grows W V) := g5.trans gV
  have HV : Hid _ := hV
  clear hbv hV zV gV g5
  go_wp2_with fail
  refine kC.mono ?_
  rintro e w7 ⟨v', rfl, ow, b7⟩
  rw [← HV.out] at b7 ow
  obtain ⟨x, xf⟩ := HBV.out w7 b7
  have x0 := x 0 _ rfl
  have x1 := x 1 _ rfl
  have x2 := x 2 _ rfl
  have x3 := x 3 _ rfl
  have x4 := x 4 _ rfl
  have x5 := x 5 _ rfl
  have bW7 : Below W.heap.size W w7 := HGV.out.below.trans (b7.mono HGV.out.below.size)
  obtain ⟨-, y, hfz⟩ := HBX.out w7 bW7
  have y0 := y 0 _ rfl
  have y1 := y 1 _ rfl
  have y2 := y 2 _ rfl
  have y3 := y 3 _ rfl
  have y4 := y 4 _ rfl
  have y5 := y 5 _ rfl
  have hne1 : ¬ w.heap.size + 1 = w5.heap.size := by have := HZ5.out.1; have := HZW.out; omega
  have hne2 : ¬ w5.heap.size = w.heap.size + 1 := fun h => hne1 h.symm
  have hz7 : ¬ w7.heap.size = w.heap.size + 1 := by have := b7.size; have := HZ5.out; have := HZW.out; omega
  have hz8 : ¬ w.heap.size + 1 = w7.heap.size := fun h => hz7 h.symm
  have hz9 : w.heap.size + 1 < w7.heap.size := by have := b7.size; have := HZ5.out; have := HZW.out; omega
  have hfz' : ∀ u o c, ((w7.setCell ⟨w5.heap.size, 2, none⟩ u).alloc o).frozen? ⟨w.heap.size + 1, c, none⟩ = false := fun u o c => by
    rw [World.frozen?_of_block (w := w7) (by rw [Below.heap_alloc _ _ _ (by simpa using hz9), Below.heap_setCell _ _ _ _ hne1])]; exact hfz c
  have hcc : ∀ u o c v, w7.cell? ⟨w.heap.size + 1, c, none⟩ = some v → ((w7.setCell ⟨w5.heap.size, 2, none⟩ u).alloc o).cell? ⟨w.heap.size + 1, c, none⟩ = some v := fun u o c v h => by
    rw [World.cell?_of_block (w := w7) (by rw [Below.heap_alloc _ _ _ (by simpa using hz9), Below.heap_setCell _ _ _ _ hne1])]; exact h
  have y0a := fun u o => hcc u o 0 _ (y 0 _ rfl)
  have y1a := fun u o => hcc u o 1 _ (y 1 _ rfl)
  have y2a := fun u o => hcc u o 2 _ (y 2 _ rfl)
  have y3a := fun u o => hcc u o 3 _ (y 3 _ rfl)
  have y4a := fun u o => hcc u o 4 _ (y 4 _ rfl)
  have y5a := fun u o => hcc u o 5 _ (y 5 _ rfl)
  clear hz9 hcc
  have rd' := ow.rds
  have vf' := vfrom_own ow
  obtain ⟨av, nv', cv, e7⟩ := rd'.sl
  have lok : (leafT t.own v').Ok (w7.setCell ⟨w5.heap.size, 2, none⟩ v') := (leafT_ok rd').keep ((Keeps.refl V.heap.size w7).setCell (show w5.heap.size < V.heap.size by have := HZ5.out; omega) v') (leafT_from vf')
  have lfr : (leafT t.own v').From V.heap.size := leafT_from vf'
  have bX : Below w.heap.size w (w7.setCell ⟨w5.heap.size, 2, none⟩ v') := (HG.out.below.trans (bW7.mono HG.out.below.size)).setCell (show w.heap.size ≤ w5.heap.size by have := HZ5.out; have := HZW.out; omega) v'
  have hFo : (leafT t.own v').Ok ((((((((w7.setCell ⟨w5.heap.size, 2, none⟩ v').setCell ⟨w.heap.size + 1, 0, none⟩ (.int .i64 t.own.k)).setCell ⟨w.heap.size + 1, 1, none⟩ (.int .i64 t.own.d)).setCell ⟨w.heap.size + 1, 2, none⟩ v').setCell ⟨w.heap.size + 1, 3, none⟩ (.int .i64 t.own.lo)).setCell ⟨w.heap.size + 1, 4, none⟩ (.int .i64 t.own.hi)).setCell ⟨w.heap.size + 1, 5, none⟩ (.slice none 0 0))) ∧
      Below w.heap.size w ((((((((w7.setCell ⟨w5.heap.size, 2, none⟩ v').setCell ⟨w.heap.size + 1, 0, none⟩ (.int .i64 t.own.k)).setCell ⟨w.heap.size + 1, 1, none⟩ (.int .i64 t.own.d)).setCell ⟨w.heap.size + 1, 2, none⟩ v').setCell ⟨w.heap.size + 1, 3, none⟩ (.int .i64 t.own.lo)).setCell ⟨w.heap.size + 1, 4, none⟩ (.int .i64 t.own.hi)).setCell ⟨w.heap.size + 1, 5, none⟩ (.slice none 0 0))) :=
    ⟨lok.keep (keep6 (B := W.heap.size) (show w.heap.size + 1 < W.heap.size by have := HZW.out; omega) _ _ _ _ _ _ _ _ _ _ _ _) (lfr.mono HGV.out.below.size), below6 bX (Nat.le_succ _) _ _ _ _ _ _ _ _ _ _ _ _⟩
  have HFr : Hid ((leafT t.own v').From w.heap.size ∧ (leafT t.own v').er = t.turn false) := ⟨lfr.mono (Nat.le_trans HG.out.below.size HGV.out.below.size), by rw [HT.out, leafT_er]; rfl⟩
  have HF : Hid _ := hFo
  have HE7 : Hid (v' = .slice av nv' cv) := e7
  rw [e7] at HF
  rw [e7]
  clear kC ow b7 x y bW7 rd' vf' e7 lok lfr bX hFo
  go_wp2_with fail
  (try simp only [Exit.inBlock, Exit.then])
  refine bodyPost_ret (by simp [results, Try.results31, go_sem, y0, y1, y2, y3, y4, y5]; try rfl) rfl ?_
  refine ⟨leafT t.own v', by rw [HE7.out]; rfl, ?_, HFr.out.1, HFr.out.2, HF.out.2⟩
  rw [HE7.out]
  exact HF.out.1
end Go.Proofs.Ytlfkhinmncbkcaa
