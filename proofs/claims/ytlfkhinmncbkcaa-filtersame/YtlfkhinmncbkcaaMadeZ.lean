/- The contracts of made and Not. -/
import Derived.Test.YtlfkhinmncbkcaaMadeN
import Derived.Test.YtlfkhinmncbkcaaMadeA
import Derived.Test.YtlfkhinmncbkcaaMadeL0t
import Derived.Test.YtlfkhinmncbkcaaMadeL0f
import Derived.Test.YtlfkhinmncbkcaaMadeL1t
import Derived.Test.YtlfkhinmncbkcaaMadeL1f
namespace Go.Proofs.Ytlfkhinmncbkcaa
open Go.RowKit Go.Sort

theorem made_all : ∀ N, MadeC N := by
  intro N
  induction N with
  | zero => intro t ht; omega
  | succ N ih =>
    intro t ht b w h lim hz
    by_cases h2 : t.k = 2
    · cases hks : t.ks with
      | nil =>
        cases b with
        | true => exact made_leaf0true N ih t ht w h lim hz h2 hks
        | false => exact made_leaf0false N ih t ht w h lim hz h2 hks
      | cons c r => exact made_not N ih t ht b w h lim hz c r h2 hks
    · by_cases h3 : t.k = 3
      · cases b with
        | true => exact made_and3true N ih t ht w h lim hz h3
        | false => exact made_and3false N ih t ht w h lim hz h3
      · by_cases h4 : t.k = 4
        · cases b with
          | true => exact made_and4true N ih t ht w h lim hz h4
          | false => exact made_and4false N ih t ht w h lim hz h4
        · cases b with
          | true => exact made_leaf1true N ih t ht w h lim hz h2 h3 h4
          | false => exact made_leaf1false N ih t ht w h lim hz h2 h3 h4

set_option maxHeartbeats 16000000 in
theorem not_any (t : Tr) (w : World) (h : t.Ok w) (lim : t.Lim) (h400 : t.sz ≤ 400) :
    Calls Try.prog 19 #[.agg #[.int .i64 t.k, .int .i64 t.d, t.tv, .int .i64 t.lo, .int .i64 t.hi, t.kv]] w fun e w' =>
    ∃ t' : Tr, e = .returned (.agg #[.int .i64 t'.k, .int .i64 t'.d, t'.tv, .int .i64 t'.lo, .int .i64 t'.hi, t'.kv]) ∧ t'.Ok w' ∧ t'.From w.heap.size ∧ t'.er = t.turn true ∧ Below w.heap.size w w' := by
  obtain ⟨at', nt, ct, ak, nk, ck, e1, e2, hnk, hc1, hc2, hc3⟩ := h.lens
  unfold maxLen at hc2
  obtain ⟨W, hW⟩ : ∃ W, W = (w.alloc (.cells #[.int .i64 t.k, .int .i64 t.d, t.tv, .int .i64 t.lo, .int .i64 t.hi, t.kv] 27)).alloc (.cells #[.int .i64 0, .int .i64 0, .slice none 0 0, .int .i64 0, .int .i64 0, .slice none 0 0] 27) := ⟨_, rfl⟩
  have gW : Grows w W := by rw [hW]; exact (Grows.alloc _ _).trans (Grows.alloc _ _)
  have zW : W.heap.size = w.heap.size + 2 := by rw [hW]; simp
  have okW := h.up gW.below
  have hbox : ∀ w5, Below W.heap.size W w5 → (∀ c u, (#[.int .i64 t.k, .int .i64 t.d, t.tv, .int .i64 t.lo, .int .i64 t.hi, t.kv] : Array Value)[c]? = some u → w5.cell? ⟨w.heap.size, c, none⟩ = some u) ∧ (∀ c u, (#[Value.int .i64 0, .int .i64 0, .slice none 0 0, .int .i64 0, .int .i64 0, .slice none 0 0])[c]? = some u → w5.cell? ⟨w.heap.size + 1, c, none⟩ = some u) ∧ ∀ c, w5.frozen? ⟨w.heap.size + 1, c, none⟩ = false := fun w5 h5 => by
    have hs : w.heap.size + 1 = (w.alloc (.cells #[.int .i64 t.k, .int .i64 t.d, t.tv, .int .i64 t.lo, .int .i64 t.hi, t.kv] 27)).heap.size := by simp
    refine ⟨fun c u hc => ?_, fun c u hc => ?_, fun c => ?_⟩
    · rw [h5.cell (by rw [zW]; show w.heap.size < _; omega), hW]
      refine cell_alloc_sl _ ?_
      simpa using hc
    · rw [h5.cell (by rw [zW]; show w.heap.size + 1 < _; omega), hW, hs]
      simpa using hc
    · rw [h5.frozen (by rw [zW]; show w.heap.size + 1 < _; omega), hW, hs]
      simp
  have HBX : Aside _ := hbox
  have HG : Hid (Grows w W) := gW
  have HZW : Hid (W.heap.size = w.heap.size + 2) := zW
  have HW : Hid _ := hW
  have HO : Hid (t.Ok W ∧ t.Lim ∧ t.sz ≤ 1000) := ⟨okW, lim, by omega⟩
  have HE : Hid (t.tv = .slice at' nt ct ∧ t.kv = .slice ak nk ck) := ⟨e1, e2⟩
  have HNK : Hid (nk = t.ks.length) := hnk
  rw [e1, e2] at HW ⊢
  clear h lim gW zW hW okW hbox e1 e2 hnk hc3
  have kG := great_any W t HO.out.1
  rw [decide_eq_false (show ¬ 400 < t.sz by omega), HE.out.1, HE.out.2, HW.out] at kG
  clear h400
  go_enter Try.func19, Try.ntmps19
  go_wp2_with fail
  refine kG.mono ?_
  rintro e w5 ⟨rfl, g5⟩
  rw [← HW.out] at g5
  obtain ⟨z, -, -⟩ := HBX.out w5 g5.below
  have z0 := z 0 _ rfl
  have z1 := z 1 _ rfl
  have z2 := z 2 _ rfl
  have z3 := z 3 _ rfl
  have z4 := z 4 _ rfl
  have z5 := z 5 _ rfl
  have kM := made_all _ t (Nat.lt_succ_self _) true w5 (HO.out.1.up g5.below) HO.out.2.1 HO.out.2.2
  rw [HE.out.1, HE.out.2] at kM
  rw [HE.out.1] at z2
  rw [HE.out.2] at z5
  have HG5 : Hid (Grows W w5) := g5
  clear z g5 kG
  go_wp2_with fail
  refine kM.mono ?_
  rintro e w6 ⟨t', rfl, ok', fr', er', b6⟩
  have fr' := fr'.mono HG5.out.below.size
  have b6 := HG5.out.below.trans (b6.mono HG5.out.below.size)
  obtain ⟨-, y, hfz⟩ := HBX.out w6 b6
  obtain ⟨at6, nt6, ct6, ak6, nk6, ck6, g1, g2, -, -, -, -⟩ := ok'.lens
  have y0 := y 0 _ rfl
  have y1 := y 1 _ rfl
  have y2 := y 2 _ rfl
  have y3 := y 3 _ rfl
  have y4 := y 4 _ rfl
  have y5 := y 5 _ rfl
  have hlt1 : w.heap.size + 1 < W.heap.size := by have := HZW.out; omega
  have hF : t'.Ok ((((((w6.setCell ⟨w.heap.size + 1, 0, none⟩ (.int .i64 t'.k)).setCell ⟨w.heap.size + 1, 1, none⟩ (.int .i64 t'.d)).setCell ⟨w.heap.size + 1, 2, none⟩ t'.tv).setCell ⟨w.heap.size + 1, 3, none⟩ (.int .i64 t'.lo)).setCell ⟨w.heap.size + 1, 4, none⟩ (.int .i64 t'.hi)).setCell ⟨w.heap.size + 1, 5, none⟩ t'.kv) ∧ t'.From w.heap.size ∧ t'.er = t.turn true ∧
      Below w.heap.size w ((((((w6.setCell ⟨w.heap.size + 1, 0, none⟩ (.int .i64 t'.k)).setCell ⟨w.heap.size + 1, 1, none⟩ (.int .i64 t'.d)).setCell ⟨w.heap.size + 1, 2, none⟩ t'.tv).setCell ⟨w.heap.size + 1, 3, none⟩ (.int .i64 t'.lo)).setCell ⟨w.heap.size + 1, 4, none⟩ (.int .i64 t'.hi)).setCell ⟨w.heap.size + 1, 5, none⟩ t'.kv) :=
    ⟨ok'.keep (keep6 hlt1 _ _ _ _ _ _ _ _ _ _ _ _) fr', fr'.mono (by have := HZW.out; omega), er', below6 (HG.out.below.trans (b6.mono HG.out.below.size)) (Nat.le_succ _) _ _ _ _ _ _ _ _ _ _ _ _⟩
  rw [g1, g2] at hF
  have HF : Hid _ := hF
  have HTT : Hid (t'.tv = .slice at6 nt6 ct6 ∧ t'.kv = .slice ak6 nk6 ck6) := ⟨g1, g2⟩
  rw [g1, g2]
  clear y hF g1 g2 hlt1
  clear kM b6 ok' fr' er' z0 z1 z2 z3 z4 z5
  go_wp2_with fail
  (try simp only [Exit.inBlock, Exit.then])
  refine bodyPost_ret (by simp [results, Try.results19, go_sem, y0, y1, y2, y3, y4, y5]; try rfl) rfl ?_
  exact ⟨t', by rw [HTT.out.1, HTT.out.2], HF.out⟩
end Go.Proofs.Ytlfkhinmncbkcaa
