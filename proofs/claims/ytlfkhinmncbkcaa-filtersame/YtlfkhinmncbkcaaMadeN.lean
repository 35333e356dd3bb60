/- made, one way through it. -/
import Derived.Test.YtlfkhinmncbkcaaMadeG
namespace Go.Proofs.Ytlfkhinmncbkcaa
open Go.RowKit Go.Sort

set_option maxHeartbeats 16000000 in
theorem made_not (N : Nat) (ih : MadeC N) (t : Tr) (ht : SizeOf.sizeOf t < N + 1) (b : Bool) (w : World) (h : t.Ok w) (lim : t.Lim) (hz : t.sz ≤ 1000) (c : Tr) (r : List Tr) (h2 : t.k = 2) (hks : t.ks = c :: r) :
    Calls Try.prog 31 #[.agg #[.int .i64 t.k, .int .i64 t.d, t.tv, .int .i64 t.lo, .int .i64 t.hi, t.kv], .bool b] w fun e w' =>
    ∃ t' : Tr, e = .returned (.agg #[.int .i64 t'.k, .int .i64 t'.d, t'.tv, .int .i64 t'.lo, .int .i64 t'.hi, t'.kv]) ∧ t'.Ok w' ∧ t'.From w.heap.size ∧ t'.er = t.turn b ∧ Below w.heap.size w w' := by
  obtain ⟨at', nt, ct, ak, nk, ck, e1, e2, hnk, hc1, hc2, hc3⟩ := h.lens
  unfold maxLen at hc2
  obtain ⟨W, hW⟩ : ∃ W, W = (w.alloc (.cells #[.int .i64 t.k, .int .i64 t.d, t.tv, .int .i64 t.lo, .int .i64 t.hi, t.kv] 27)).alloc (.cells #[.int .i64 0, .int .i64 0, .slice none 0 0, .int .i64 0, .int .i64 0, .slice none 0 0] 27) := ⟨_, rfl⟩
  have gW : Grows w W := by rw [hW]; exact (Grows.alloc _ _).trans (Grows.alloc _ _)
  have zW : W.heap.size = w.heap.size + 2 := by rw [hW]; simp
  have okW := h.up gW.below
  have hbox : ∀ w5, Below W.heap.size W w5 → (∀ c u, (#[.int .i64 t.k, .int .i64 t.d, t.tv, .int .i64 t.lo, .int .i64 t.hi, t.kv] : Array Value)[c]? = some u → w5.cell? ⟨w.heap.size, c, none⟩ = some u) ∧ (∀ c u, (#[Value.int .i64 0, .int .i64 0, .slice none 0 0, .int .i64 0, .int .i64 0, .slice none 0 0])[c]? = some u → w5.cell? ⟨w.heap.size + 1, c, none⟩ = some u) ∧ ∀ c, w5.frozen? ⟨w.heap.size + 1, c, none⟩ = false := fun w5 h5 => by
    have hs : w.heap.size + 1 = (w.alloc (.cells #[.int .i64 t.k, .int .i64 t.d, t.tv, .int .i64 t.lo, .int .i64 t.hi, t.kv] 27)).heap.size := by simp
    refine ⟨fun c u hc => ?_, fun c u hc => ?_, fun c => ?_⟩
    · rw [h5.cell (by rw [zW]; show w.heap.size < _; omega), hW]
      refine cell_alloc_sl _ ?_
      simpa using hc
    · rw [h5.cell (by rw [zW]; show w.heap.size + 1 < _; omega), hW, hs]
      simpa using hc
    · rw [h5.frozen (by rw [zW]; show w.heap.size + 1 < _; omega), hW, hs]
      simp
  have HBX : Aside _ := hbox
  have HG : Hid (Grows w W) := gW
  have HZW : Hid (W.heap.size = w.heap.size + 2) := zW
  have HW : Hid _ := hW
  have HO : Hid (t.Ok W ∧ t.Lim ∧ t.sz ≤ 1000 ∧ SizeOf.sizeOf t < N + 1) := ⟨okW, lim, hz, ht⟩
  have HE : Hid (t.tv = .slice at' nt ct ∧ t.kv = .slice ak nk ck) := ⟨e1, e2⟩
  have HI : Aside _ := ih
  have HNK : Hid (nk = t.ks.length) := hnk
  rw [e1, e2] at HW ⊢
  clear h ht lim hz gW zW hW okW hbox ih e1 e2 hnk hc3
  have HT : Hid (t.turn b = c.turn (!b)) := turn_not h2 hks b
  have c2 : (t.k == 2) = true := by simp [h2]
  have hkz : (0 : Int) < (nk : Int) := by have h1 := HNK.out; rw [hks] at h1; simp at h1; omega
  have hcm : c ∈ t.ks := by rw [hks]; exact List.mem_cons_self
  have hr := HO.out.1.kids'
  rw [HE.out.2] at hr
  obtain ⟨bk, off, rfl, hcell⟩ := hr.at (by rw [hks]; simp)
  obtain ⟨q0, q1, q2, q3, q4, q5⟩ := hcell 0 (by rw [hks]; simp)
  simp only [hks, List.getElem_cons_zero, Nat.zero_mul, Nat.add_zero] at q0 q1 q2 q3 q4 q5
  have okc := hr.ok c hcm
  have hszc : c.sz ≤ 1000 := by
    have h1 := t.sz_eq
    have h3 : t.kids = [c] := by unfold Tr.kids; rw [if_pos h2, hks]; rfl
    rw [h3, szL_one] at h1
    have := HO.out.2.2
    omega
  have kM := HI.out c (by have := ks_lt hcm; have := HO.out.2.2.2; omega) (!b) W okc (HO.out.2.1.kid c hcm) hszc
  obtain ⟨at5, nt5, ct5, ak5, nk5, ck5, f1, f2, -, -, -, -⟩ := okc.lens
  rw [f1] at q2
  rw [f2] at q5
  rw [HW.out] at q0 q1 q2 q3 q4 q5
  rw [HW.out, f1, f2] at kM
  have HKS : Hid _ := hks
  generalize c.k = xk at *
  generalize c.d = xd at *
  generalize c.lo = xl at *
  generalize c.hi = xh at *
  clear h2 hcm hr hcell okc hszc f1 f2 hks
  go_enter Try.func31, Try.ntmps31
  go_wp2_with fail
  refine kM.mono ?_
  rintro e w6 ⟨t', rfl, ok', fr', er', b6⟩
  rw [← HW.out] at b6 fr'
  obtain ⟨-, y, hfz⟩ := HBX.out w6 b6
  obtain ⟨at6, nt6, ct6, ak6, nk6, ck6, g1, g2, -, -, -, -⟩ := ok'.lens
  have y0 := y 0 _ rfl
  have y1 := y 1 _ rfl
  have y2 := y 2 _ rfl
  have y3 := y 3 _ rfl
  have y4 := y 4 _ rfl
  have y5 := y 5 _ rfl
  have hlt1 : w.heap.size + 1 < W.heap.size := by have := HZW.out; omega
  have hF : t'.Ok ((((((w6.setCell ⟨w.heap.size + 1, 0, none⟩ (.int .i64 t'.k)).setCell ⟨w.heap.size + 1, 1, none⟩ (.int .i64 t'.d)).setCell ⟨w.heap.size + 1, 2, none⟩ t'.tv).setCell ⟨w.heap.size + 1, 3, none⟩ (.int .i64 t'.lo)).setCell ⟨w.heap.size + 1, 4, none⟩ (.int .i64 t'.hi)).setCell ⟨w.heap.size + 1, 5, none⟩ t'.kv) ∧ t'.From w.heap.size ∧ t'.er = t.turn b ∧
      Below w.heap.size w ((((((w6.setCell ⟨w.heap.size + 1, 0, none⟩ (.int .i64 t'.k)).setCell ⟨w.heap.size + 1, 1, none⟩ (.int .i64 t'.d)).setCell ⟨w.heap.size + 1, 2, none⟩ t'.tv).setCell ⟨w.heap.size + 1, 3, none⟩ (.int .i64 t'.lo)).setCell ⟨w.heap.size + 1, 4, none⟩ (.int .i64 t'.hi)).setCell ⟨w.heap.size + 1, 5, none⟩ t'.kv) :=
    ⟨ok'.keep (keep6 hlt1 _ _ _ _ _ _ _ _ _ _ _ _) fr', fr'.mono (by have := HZW.out; omega), er'.trans HT.out.symm, below6 (HG.out.below.trans (b6.mono HG.out.below.size)) (Nat.le_succ _) _ _ _ _ _ _ _ _ _ _ _ _⟩
  rw [g1, g2] at hF
  have HF : Hid _ := hF
  have HTT : Hid (t'.tv = .slice at6 nt6 ct6 ∧ t'.kv = .slice ak6 nk6 ck6) := ⟨g1, g2⟩
  rw [g1, g2]
  clear y hF g1 g2 hlt1
  clear kM q0 q1 q2 q3 q4 q5 b6 ok' fr' er'
  go_wp2_with fail
  (try simp only [Exit.inBlock, Exit.then])
  refine bodyPost_ret (by simp [results, Try.results31, go_sem, y0, y1, y2, y3, y4, y5]; try rfl) rfl ?_
  exact ⟨t', by rw [HTT.out.1, HTT.out.2], HF.out⟩
end Go.Proofs.Ytlfkhinmncbkcaa
