/- The reference's Made, one way through it. -/
import Derived.Test.YtlfkhinmncbkcaaRMade
namespace Go.Proofs.Ytlfkhinmncbkcaa
open Go.RowKit Go.Sort

set_option maxHeartbeats 16000000 in
theorem rmade_not (D M : Int) (B0 N : Nat) (ih : RMadeC D M B0 N) (t : Tr) (ht : SizeOf.sizeOf t < N + 1) (b : Bool) (w : World) (hB : B0 ≤ w.heap.size) (h : t.Ok w) (off : t.Off (· < B0)) (hf : t.fitA D M = true) (hz : t.sz ≤ 1000) (c : Tr) (r : List Tr) (h2 : t.k = 2) (hks : t.ks = c :: r) :
    Calls Try.prog 20 #[.agg #[.int .i64 t.k, .int .i64 t.d, t.tv, .int .i64 t.lo, .int .i64 t.hi, t.kv], .bool b] w fun e w' =>
      ∃ t' : Tr, e = .returned (.agg #[.int .i64 t'.k, .int .i64 t'.d, t'.tv, .int .i64 t'.lo, .int .i64 t'.hi, t'.kv]) ∧ t'.Ok w' ∧ t'.Off (fun k => k < B0 ∨ w.heap.size ≤ k) ∧ t'.er = t.turn b ∧ Below w.heap.size w w' := by
  obtain ⟨at', nt, ct, ak, nk, ck, e1, e2, hnk, hc1, hc2, hc3⟩ := h.lens
  unfold maxLen at hc2
  obtain ⟨W0, hW0⟩ : ∃ W, W = w.alloc (.cells #[.int .i64 t.k, .int .i64 t.d, t.tv, .int .i64 t.lo, .int .i64 t.hi, t.kv] 27) := ⟨_, rfl⟩
  obtain ⟨W, hW1⟩ : ∃ W, W = W0.alloc (.cells #[.int .i64 0, .int .i64 0, .slice none 0 0, .int .i64 0, .int .i64 0, .slice none 0 0] 27) := ⟨_, rfl⟩
  have s0 : W0.heap.size = w.heap.size + 1 := by rw [hW0]; simp
  have zW : W.heap.size = w.heap.size + 1 + 1 := by rw [hW1]; simp [s0]
  have gW : Grows w W := by rw [hW1, hW0]; exact (Grows.alloc _ _).trans (Grows.alloc _ _)
  have cc : ∀ c u, #[Value.int .i64 t.k, .int .i64 t.d, t.tv, .int .i64 t.lo, .int .i64 t.hi, t.kv][c]? = some u → W.cell? ⟨w.heap.size, c, none⟩ = some u := fun c u hc => by
    rw [hW1, hW0]; exact cell_alloc_sl _ (al_new _ _ _ rfl hc)
  have cz : ∀ c u, #[Value.int .i64 0, .int .i64 0, .slice none 0 0, .int .i64 0, .int .i64 0, .slice none 0 0][c]? = some u → W.cell? ⟨w.heap.size + 1, c, none⟩ = some u := fun c u hc => by
    rw [hW1]; exact al_new _ _ _ s0.symm hc
  have hfz : ∀ c, W.frozen? ⟨w.heap.size + 1, c, none⟩ = false := fun c => by
    rw [hW1, ← s0]; simp
  have hW : W = (w.alloc (.cells #[.int .i64 t.k, .int .i64 t.d, t.tv, .int .i64 t.lo, .int .i64 t.hi, t.kv] 27)).alloc (.cells #[.int .i64 0, .int .i64 0, .slice none 0 0, .int .i64 0, .int .i64 0, .slice none 0 0] 27) := by rw [hW1, hW0]
  have hbox : ∀ w5, Below W.heap.size W w5 → (∀ c u, #[Value.int .i64 t.k, .int .i64 t.d, t.tv, .int .i64 t.lo, .int .i64 t.hi, t.kv][c]? = some u → w5.cell? ⟨w.heap.size, c, none⟩ = some u) ∧ (∀ c u, #[Value.int .i64 0, .int .i64 0, .slice none 0 0, .int .i64 0, .int .i64 0, .slice none 0 0][c]? = some u → w5.cell? ⟨w.heap.size + 1, c, none⟩ = some u) ∧ ∀ c, w5.frozen? ⟨w.heap.size + 1, c, none⟩ = false := fun w5 h5 =>
    ⟨fun c u hc => cell_up h5 (cc c u hc), fun c u hc => cell_up h5 (cz c u hc), fun c => by rw [h5.frozen (by rw [zW]; show w.heap.size + 1 < _; omega)]; exact hfz c⟩
  have HBX : Aside _ := hbox
  have HG : Hid (Grows w W) := gW
  have HZW : Hid (W.heap.size = w.heap.size + 1 + 1 ∧ B0 ≤ w.heap.size) := ⟨zW, hB⟩
  have HW : Hid _ := hW
  have HO : Hid (t.Ok W ∧ t.Off (· < B0) ∧ t.fitA D M = true ∧ t.sz ≤ 1000 ∧ SizeOf.sizeOf t < N + 1) := ⟨h.up gW.below, off, hf, hz, ht⟩
  have HE : Hid (t.tv = .slice at' nt ct ∧ t.kv = .slice ak nk ck) := ⟨e1, e2⟩
  have HI : Aside _ := ih
  have HNK : Hid (nk = t.ks.length) := hnk
  rw [e1, e2] at HW ⊢
  clear h ht off hf hz gW zW hW hW0 hW1 s0 cc cz hfz hbox ih e1 e2 hnk hc3 hB
  have HT : Hid (t.turn b = c.turn (!b)) := turn_not h2 hks b
  have c2 : (t.k == 2) = true := by simp [h2]
  have hkz : (0 : Int) < (nk : Int) := by have h1 := HNK.out; rw [hks] at h1; simp at h1; omega
  have hcm : c ∈ t.ks := by rw [hks]; exact List.mem_cons_self
  have hr := HO.out.1.kids'
  rw [HE.out.2] at hr
  obtain ⟨bk, off, rfl, hcell⟩ := hr.at (by rw [hks]; simp)
  obtain ⟨q0, q1, q2, q3, q4, q5⟩ := hcell 0 (by rw [hks]; simp)
  simp only [hks, List.getElem_cons_zero, Nat.zero_mul, Nat.add_zero] at q0 q1 q2 q3 q4 q5
  have okc := hr.ok c hcm
  have hszc : c.sz ≤ 1000 := by
    have h1 := t.sz_eq
    rw [not_kids h2 hks, szL_one] at h1
    have := HO.out.2.2.2.1
    omega
  have hfc : c.fitA D M = true := by
    have h1 := HO.out.2.2.1
    rw [t.fitA_eq, not_kids h2 hks, fitL_one, Bool.and_eq_true] at h1
    exact h1.2
  have kM := HI.out c (by have := ks_lt hcm; have := HO.out.2.2.2.2; omega) (!b) W (by have := HZW.out; omega) okc (HO.out.2.1.kid c hcm) hfc hszc
  obtain ⟨at5, nt5, ct5, ak5, nk5, ck5, f1, f2, -, -, -, -⟩ := okc.lens
  rw [f1] at q2
  rw [f2] at q5
  rw [HW.out] at q0 q1 q2 q3 q4 q5
  rw [HW.out, f1, f2] at kM
  have HKS : Hid _ := hks
  generalize c.k = xk at *
  generalize c.d = xd at *
  generalize c.lo = xl at *
  generalize c.hi = xh at *
  clear h2 hcm hr hcell okc hszc hfc f1 f2 hks
  go_enter Try.func20, Try.ntmps20
  go_wp2_with fail
  refine kM.mono ?_
  rintro e w6 ⟨t', rfl, ok', of', er', b6⟩
  rw [← HW.out] at b6 of'
  have er' := er'.trans HT.out.symm
  have b6x := b6
  have hF : t'.Ok ((((((w6.setCell ⟨w.heap.size + 1, 0, none⟩ (.int .i64 t'.k)).setCell ⟨w.heap.size + 1, 1, none⟩ (.int .i64 t'.d)).setCell ⟨w.heap.size + 1, 2, none⟩ t'.tv).setCell ⟨w.heap.size + 1, 3, none⟩ (.int .i64 t'.lo)).setCell ⟨w.heap.size + 1, 4, none⟩ (.int .i64 t'.hi)).setCell ⟨w.heap.size + 1, 5, none⟩ t'.kv) ∧ t'.Off (fun k => k < B0 ∨ w.heap.size ≤ k) ∧ t'.er = t.turn b ∧ Below w.heap.size w ((((((w6.setCell ⟨w.heap.size + 1, 0, none⟩ (.int .i64 t'.k)).setCell ⟨w.heap.size + 1, 1, none⟩ (.int .i64 t'.d)).setCell ⟨w.heap.size + 1, 2, none⟩ t'.tv).setCell ⟨w.heap.size + 1, 3, none⟩ (.int .i64 t'.lo)).setCell ⟨w.heap.size + 1, 4, none⟩ (.int .i64 t'.hi)).setCell ⟨w.heap.size + 1, 5, none⟩ t'.kv) :=
    ⟨ok'.keepP (P := fun k => k < B0 ∨ W.heap.size ≤ k) (fun k hk _ => put6_off (by have := HZW.out; rcases hk with hk | hk <;> omega) _ _ _ _ _ _ _ _ _ _ _ _) of', of'.mono (fun k hk => hk.imp id fun hk => by have := HZW.out; omega), er', below6 (HG.out.below.trans (b6.mono HG.out.below.size)) (Nat.le_succ _) _ _ _ _ _ _ _ _ _ _ _ _⟩
  have HF : Hid _ := hF
  obtain ⟨-, y, hfz⟩ := HBX.out w6 b6x
  have y0 := y 0 _ rfl
  have y1 := y 1 _ rfl
  have y2 := y 2 _ rfl
  have y3 := y 3 _ rfl
  have y4 := y 4 _ rfl
  have y5 := y 5 _ rfl
  clear hF y
  obtain ⟨at6, nt6, ct6, ak6, nk6, ck6, g1, g2, -, -, -, -⟩ := ok'.lens
  have HTT : Hid (t'.tv = .slice at6 nt6 ct6 ∧ t'.kv = .slice ak6 nk6 ck6) := ⟨g1, g2⟩
  rw [g1, g2] at HF ⊢
  clear kM q0 q1 q2 q3 q4 q5 b6 b6x ok' of' er' g1 g2
  go_wp2_with fail
  (try simp only [Exit.inBlock, Exit.then])
  refine bodyPost_ret (by simp [results, Try.results20, go_sem, y0, y1, y2, y3, y4, y5]; try rfl) rfl ?_
  exact ⟨t', by rw [HTT.out.1, HTT.out.2], HF.out⟩
set_option maxHeartbeats 16000000 in
theorem rmade_leaff (D M : Int) (B0 N : Nat) (ih : RMadeC D M B0 N) (t : Tr) (ht : SizeOf.sizeOf t < N + 1) (w : World) (hB : B0 ≤ w.heap.size) (h : t.Ok w) (off : t.Off (· < B0)) (hf : t.fitA D M = true) (hz : t.sz ≤ 1000) (h2 : t.k ≠ 2) (h3 : t.k ≠ 3) (h4 : t.k ≠ 4) :
    Calls Try.prog 20 #[.agg #[.int .i64 t.k, .int .i64 t.d, t.tv, .int .i64 t.lo, .int .i64 t.hi, t.kv], .bool false] w fun e w' =>
      ∃ t' : Tr, e = .returned (.agg #[.int .i64 t'.k, .int .i64 t'.d, t'.tv, .int .i64 t'.lo, .int .i64 t'.hi, t'.kv]) ∧ t'.Ok w' ∧ t'.Off (fun k => k < B0 ∨ w.heap.size ≤ k) ∧ t'.er = t.turn false ∧ Below w.heap.size w w' := by
  obtain ⟨at', nt, ct, ak, nk, ck, e1, e2, hnk, hc1, hc2, hc3⟩ := h.lens
  unfold maxLen at hc2
  obtain ⟨W0, hW0⟩ : ∃ W, W = w.alloc (.cells #[.int .i64 t.k, .int .i64 t.d, t.tv, .int .i64 t.lo, .int .i64 t.hi, t.kv] 27) := ⟨_, rfl⟩
  obtain ⟨W, hW1⟩ : ∃ W, W = W0.alloc (.cells #[.int .i64 0, .int .i64 0, .slice none 0 0, .int .i64 0, .int .i64 0, .slice none 0 0] 27) := ⟨_, rfl⟩
  have s0 : W0.heap.size = w.heap.size + 1 := by rw [hW0]; simp
  have zW : W.heap.size = w.heap.size + 1 + 1 := by rw [hW1]; simp [s0]
  have gW : Grows w W := by rw [hW1, hW0]; exact (Grows.alloc _ _).trans (Grows.alloc _ _)
  have cc : ∀ c u, #[Value.int .i64 t.k, .int .i64 t.d, t.tv, .int .i64 t.lo, .int .i64 t.hi, t.kv][c]? = some u → W.cell? ⟨w.heap.size, c, none⟩ = some u := fun c u hc => by
    rw [hW1, hW0]; exact cell_alloc_sl _ (al_new _ _ _ rfl hc)
  have cz : ∀ c u, #[Value.int .i64 0, .int .i64 0, .slice none 0 0, .int .i64 0, .int .i64 0, .slice none 0 0][c]? = some u → W.cell? ⟨w.heap.size + 1, c, none⟩ = some u := fun c u hc => by
    rw [hW1]; exact al_new _ _ _ s0.symm hc
  have hfz : ∀ c, W.frozen? ⟨w.heap.size + 1, c, none⟩ = false := fun c => by
    rw [hW1, ← s0]; simp
  have hW : W = (w.alloc (.cells #[.int .i64 t.k, .int .i64 t.d, t.tv, .int .i64 t.lo, .int .i64 t.hi, t.kv] 27)).alloc (.cells #[.int .i64 0, .int .i64 0, .slice none 0 0, .int .i64 0, .int .i64 0, .slice none 0 0] 27) := by rw [hW1, hW0]
  have hbox : ∀ w5, Below W.heap.size W w5 → (∀ c u, #[Value.int .i64 t.k, .int .i64 t.d, t.tv, .int .i64 t.lo, .int .i64 t.hi, t.kv][c]? = some u → w5.cell? ⟨w.heap.size, c, none⟩ = some u) ∧ (∀ c u, #[Value.int .i64 0, .int .i64 0, .slice none 0 0, .int .i64 0, .int .i64 0, .slice none 0 0][c]? = some u → w5.cell? ⟨w.heap.size + 1, c, none⟩ = some u) ∧ ∀ c, w5.frozen? ⟨w.heap.size + 1, c, none⟩ = false := fun w5 h5 =>
    ⟨fun c u hc => cell_up h5 (cc c u hc), fun c u hc => cell_up h5 (cz c u hc), fun c => by rw [h5.frozen (by rw [zW]; show w.heap.size + 1 < _; omega)]; exact hfz c⟩
  have HBX : Aside _ := hbox
  have HG : Hid (Grows w W) := gW
  have HZW : Hid (W.heap.size = w.heap.size + 1 + 1 ∧ B0 ≤ w.heap.size) := ⟨zW, hB⟩
  have HW : Hid _ := hW
  have HO : Hid (t.Ok W ∧ t.Off (· < B0) ∧ t.fitA D M = true ∧ t.sz ≤ 1000 ∧ SizeOf.sizeOf t < N + 1) := ⟨h.up gW.below, off, hf, hz, ht⟩
  have HE : Hid (t.tv = .slice at' nt ct ∧ t.kv = .slice ak nk ck) := ⟨e1, e2⟩
  have HI : Aside _ := ih
  have HNK : Hid (nk = t.ks.length) := hnk
  rw [e1, e2] at HW ⊢
  clear h ht off hf hz gW zW hW hW0 hW1 s0 cc cz hfz hbox ih e1 e2 hnk hc3 hB
  have HT : Hid _ := turn_leaf h3 h4 (kids_none h2 h3 h4) false
  have c2 : (t.k == 2) = false := by simp [h2]
  have c3 : (t.k == 3) = false := by simp [h3]
  have c4 : (t.k == 4) = false := by simp [h4]
  clear h2 h3 h4
  have kO := leaf_any W t HO.out.1
  obtain ⟨ao, no, co, f1⟩ := (own_rt HO.out.1).sl
  rw [HE.out.1, HE.out.2, own_kv, f1, HW.out] at kO
  have HOV : Hid (t.own.tv = .slice ao no co) := f1
  clear f1
  go_enter Try.func20, Try.ntmps20
  go_wp2_with fail
  refine kO.mono ?_
  rintro e w5 ⟨rfl, g5⟩
  rw [← HW.out] at g5
  clear kO
  have ok' : t.own.Ok w5 := own_ok (HO.out.1.up g5.below)
  have of' : t.own.Off (fun k => k < B0 ∨ W.heap.size ≤ k) := (own_off HO.out.2.1).mono fun k hk => .inl hk
  have er' : t.own.er = t.turn false := by rw [HT.out]; rfl
  have b6 := g5.below
  have b6x := b6
  have hF : t.own.Ok ((((((w5.setCell ⟨w.heap.size + 1, 0, none⟩ (.int .i64 t.own.k)).setCell ⟨w.heap.size + 1, 1, none⟩ (.int .i64 t.own.d)).setCell ⟨w.heap.size + 1, 2, none⟩ t.own.tv).setCell ⟨w.heap.size + 1, 3, none⟩ (.int .i64 t.own.lo)).setCell ⟨w.heap.size + 1, 4, none⟩ (.int .i64 t.own.hi)).setCell ⟨w.heap.size + 1, 5, none⟩ t.own.kv) ∧ t.own.Off (fun k => k < B0 ∨ w.heap.size ≤ k) ∧ t.own.er = t.turn false ∧ Below w.heap.size w ((((((w5.setCell ⟨w.heap.size + 1, 0, none⟩ (.int .i64 t.own.k)).setCell ⟨w.heap.size + 1, 1, none⟩ (.int .i64 t.own.d)).setCell ⟨w.heap.size + 1, 2, none⟩ t.own.tv).setCell ⟨w.heap.size + 1, 3, none⟩ (.int .i64 t.own.lo)).setCell ⟨w.heap.size + 1, 4, none⟩ (.int .i64 t.own.hi)).setCell ⟨w.heap.size + 1, 5, none⟩ t.own.kv) :=
    ⟨ok'.keepP (P := fun k => k < B0 ∨ W.heap.size ≤ k) (fun k hk _ => put6_off (by have := HZW.out; rcases hk with hk | hk <;> omega) _ _ _ _ _ _ _ _ _ _ _ _) of', of'.mono (fun k hk => hk.imp id fun hk => by have := HZW.out; omega), er', below6 (HG.out.below.trans (b6.mono HG.out.below.size)) (Nat.le_succ _) _ _ _ _ _ _ _ _ _ _ _ _⟩
  have HF : Hid _ := hF
  obtain ⟨-, y, hfz⟩ := HBX.out w5 b6x
  have y0 := y 0 _ rfl
  have y1 := y 1 _ rfl
  have y2 := y 2 _ rfl
  have y3 := y 3 _ rfl
  have y4 := y 4 _ rfl
  have y5 := y 5 _ rfl
  clear hF y
  rw [own_kv, HOV.out] at HF
  clear b6 b6x ok' of' er' g5
  go_wp2_with fail
  (try simp only [Exit.inBlock, Exit.then])
  refine bodyPost_ret (by simp [results, Try.results20, go_sem, y0, y1, y2, y3, y4, y5]; try rfl) rfl ?_
  exact ⟨t.own, by rw [HOV.out, own_kv], HF.out⟩
set_option maxHeartbeats 16000000 in
theorem rmade_leaft (D M : Int) (B0 N : Nat) (ih : RMadeC D M B0 N) (t : Tr) (ht : SizeOf.sizeOf t < N + 1) (w : World) (hB : B0 ≤ w.heap.size) (h : t.Ok w) (off : t.Off (· < B0)) (hf : t.fitA D M = true) (hz : t.sz ≤ 1000) (h2 : t.k ≠ 2) (h3 : t.k ≠ 3) (h4 : t.k ≠ 4) :
    Calls Try.prog 20 #[.agg #[.int .i64 t.k, .int .i64 t.d, t.tv, .int .i64 t.lo, .int .i64 t.hi, t.kv], .bool true] w fun e w' =>
      ∃ t' : Tr, e = .returned (.agg #[.int .i64 t'.k, .int .i64 t'.d, t'.tv, .int .i64 t'.lo, .int .i64 t'.hi, t'.kv]) ∧ t'.Ok w' ∧ t'.Off (fun k => k < B0 ∨ w.heap.size ≤ k) ∧ t'.er = t.turn true ∧ Below w.heap.size w w' := by
  obtain ⟨at', nt, ct, ak, nk, ck, e1, e2, hnk, hc1, hc2, hc3⟩ := h.lens
  unfold maxLen at hc2
  obtain ⟨W0, hW0⟩ : ∃ W, W = w.alloc (.cells #[.int .i64 t.k, .int .i64 t.d, t.tv, .int .i64 t.lo, .int .i64 t.hi, t.kv] 27) := ⟨_, rfl⟩
  obtain ⟨W, hW1⟩ : ∃ W, W = W0.alloc (.cells #[.int .i64 0, .int .i64 0, .slice none 0 0, .int .i64 0, .int .i64 0, .slice none 0 0] 27) := ⟨_, rfl⟩
  have s0 : W0.heap.size = w.heap.size + 1 := by rw [hW0]; simp
  have zW : W.heap.size = w.heap.size + 1 + 1 := by rw [hW1]; simp [s0]
  have gW : Grows w W := by rw [hW1, hW0]; exact (Grows.alloc _ _).trans (Grows.alloc _ _)
  have cc : ∀ c u, #[Value.int .i64 t.k, .int .i64 t.d, t.tv, .int .i64 t.lo, .int .i64 t.hi, t.kv][c]? = some u → W.cell? ⟨w.heap.size, c, none⟩ = some u := fun c u hc => by
    rw [hW1, hW0]; exact cell_alloc_sl _ (al_new _ _ _ rfl hc)
  have cz : ∀ c u, #[Value.int .i64 0, .int .i64 0, .slice none 0 0, .int .i64 0, .int .i64 0, .slice none 0 0][c]? = some u → W.cell? ⟨w.heap.size + 1, c, none⟩ = some u := fun c u hc => by
    rw [hW1]; exact al_new _ _ _ s0.symm hc
  have hfz : ∀ c, W.frozen? ⟨w.heap.size + 1, c, none⟩ = false := fun c => by
    rw [hW1, ← s0]; simp
  have hW : W = (w.alloc (.cells #[.int .i64 t.k, .int .i64 t.d, t.tv, .int .i64 t.lo, .int .i64 t.hi, t.kv] 27)).alloc (.cells #[.int .i64 0, .int .i64 0, .slice none 0 0, .int .i64 0, .int .i64 0, .slice none 0 0] 27) := by rw [hW1, hW0]
  have hbox : ∀ w5, Below W.heap.size W w5 → (∀ c u, #[Value.int .i64 t.k, .int .i64 t.d, t.tv, .int .i64 t.lo, .int .i64 t.hi, t.kv][c]? = some u → w5.cell? ⟨w.heap.size, c, none⟩ = some u) ∧ (∀ c u, #[Value.int .i64 0, .int .i64 0, .slice none 0 0, .int .i64 0, .int .i64 0, .slice none 0 0][c]? = some u → w5.cell? ⟨w.heap.size + 1, c, none⟩ = some u) ∧ ∀ c, w5.frozen? ⟨w.heap.size + 1, c, none⟩ = false := fun w5 h5 =>
    ⟨fun c u hc => cell_up h5 (cc c u hc), fun c u hc => cell_up h5 (cz c u hc), fun c => by rw [h5.frozen (by rw [zW]; show w.heap.size + 1 < _; omega)]; exact hfz c⟩
  have HBX : Aside _ := hbox
  have HG : Hid (Grows w W) := gW
  have HZW : Hid (W.heap.size = w.heap.size + 1 + 1 ∧ B0 ≤ w.heap.size) := ⟨zW, hB⟩
  have HW : Hid _ := hW
  have HO : Hid (t.Ok W ∧ t.Off (· < B0) ∧ t.fitA D M = true ∧ t.sz ≤ 1000 ∧ SizeOf.sizeOf t < N + 1) := ⟨h.up gW.below, off, hf, hz, ht⟩
  have HE : Hid (t.tv = .slice at' nt ct ∧ t.kv = .slice ak nk ck) := ⟨e1, e2⟩
  have HI : Aside _ := ih
  have HNK : Hid (nk = t.ks.length) := hnk
  rw [e1, e2] at HW ⊢
  clear h ht off hf hz gW zW hW hW0 hW1 s0 cc cz hfz hbox ih e1 e2 hnk hc3 hB
  have HT : Hid _ := turn_leaf h3 h4 (kids_none h2 h3 h4) true
  have c2 : (t.k == 2) = false := by simp [h2]
  have c3 : (t.k == 3) = false := by simp [h3]
  have c4 : (t.k == 4) = false := by simp [h4]
  clear h2 h3 h4
  have kO := leaf_any W t HO.out.1
  obtain ⟨ao, no, co, f1⟩ := (own_rt HO.out.1).sl
  rw [HE.out.1, HE.out.2, own_kv, f1, HW.out] at kO
  have HOV : Hid (t.own.tv = .slice ao no co) := f1
  clear f1
  go_enter Try.func20, Try.ntmps20
  go_wp2_with fail
  refine kO.mono ?_
  rintro e w5 ⟨rfl, g5⟩
  rw [← HW.out] at g5
  clear kO
  have okl : t.own.Ok w5 := own_ok (HO.out.1.up g5.below)
  obtain ⟨V, hV⟩ : ∃ V, V = w5.alloc (.cells #[.int .i64 t.own.k, .int .i64 t.own.d, t.own.tv, .int .i64 t.own.lo, .int .i64 t.own.hi, t.own.kv] 27) := ⟨_, rfl⟩
  have gV : Grows w5 V := by rw [hV]; exact Grows.alloc _ _
  have rdt := one_tr w5 t.own okl w5.heap.size rfl
  rw [← hV] at rdt
  have ok' : (Tr.mk 2 0 sn [] 0 0 (.slice (some ⟨w5.heap.size, 0, none⟩) 1 1) [t.own]).Ok V := not_tree rdt
  have of' : (Tr.mk 2 0 sn [] 0 0 (.slice (some ⟨w5.heap.size, 0, none⟩) 1 1) [t.own]).Off (fun k => k < B0 ∨ W.heap.size ≤ k) := .mk (vout_nil _) (fun a n c e _ => by cases e; exact .inr g5.below.size) fun d hd => by
    have : d = t.own := by simpa [Tr.ks] using hd
    rw [this]; exact (own_off HO.out.2.1).mono fun k hk => .inl hk
  have er' : (Tr.mk 2 0 sn [] 0 0 (.slice (some ⟨w5.heap.size, 0, none⟩) 1 1) [t.own]).er = t.turn true := by rw [HT.out, Tr.er_eq]; rfl
  have b6 : Below W.heap.size W V := g5.below.trans (gV.below.mono g5.below.size)
  have b6x := b6
  have hF : (Tr.mk 2 0 sn [] 0 0 (.slice (some ⟨w5.heap.size, 0, none⟩) 1 1) [t.own]).Ok ((((((V.setCell ⟨w.heap.size + 1, 0, none⟩ (.int .i64 2)).setCell ⟨w.heap.size + 1, 1, none⟩ (.int .i64 0)).setCell ⟨w.heap.size + 1, 2, none⟩ (.slice none 0 0)).setCell ⟨w.heap.size + 1, 3, none⟩ (.int .i64 0)).setCell ⟨w.heap.size + 1, 4, none⟩ (.int .i64 0)).setCell ⟨w.heap.size + 1, 5, none⟩ (.slice (some ⟨w5.heap.size, 0, none⟩) 1 1)) ∧ (Tr.mk 2 0 sn [] 0 0 (.slice (some ⟨w5.heap.size, 0, none⟩) 1 1) [t.own]).Off (fun k => k < B0 ∨ w.heap.size ≤ k) ∧ (Tr.mk 2 0 sn [] 0 0 (.slice (some ⟨w5.heap.size, 0, none⟩) 1 1) [t.own]).er = t.turn true ∧ Below w.heap.size w ((((((V.setCell ⟨w.heap.size + 1, 0, none⟩ (.int .i64 2)).setCell ⟨w.heap.size + 1, 1, none⟩ (.int .i64 0)).setCell ⟨w.heap.size + 1, 2, none⟩ (.slice none 0 0)).setCell ⟨w.heap.size + 1, 3, none⟩ (.int .i64 0)).setCell ⟨w.heap.size + 1, 4, none⟩ (.int .i64 0)).setCell ⟨w.heap.size + 1, 5, none⟩ (.slice (some ⟨w5.heap.size, 0, none⟩) 1 1)) :=
    ⟨ok'.keepP (P := fun k => k < B0 ∨ W.heap.size ≤ k) (fun k hk _ => put6_off (by have := HZW.out; rcases hk with hk | hk <;> omega) _ _ _ _ _ _ _ _ _ _ _ _) of', of'.mono (fun k hk => hk.imp id fun hk => by have := HZW.out; omega), er', below6 (HG.out.below.trans (b6.mono HG.out.below.size)) (Nat.le_succ _) _ _ _ _ _ _ _ _ _ _ _ _⟩
  have HF : Hid _ := hF
  obtain ⟨-, y, hfz⟩ := HBX.out V b6x
  have y0 := y 0 _ rfl
  have y1 := y 1 _ rfl
  have y2 := y 2 _ rfl
  have y3 := y 3 _ rfl
  have y4 := y 4 _ rfl
  have y5 := y 5 _ rfl
  clear hF y
  rw [own_kv, HOV.out] at hV
  rw [hV] at HF y0 y1 y2 y3 y4 y5 hfz
  clear b6 b6x ok' of' er' g5 gV hV okl rdt
  go_wp2_with fail
  (try simp only [Exit.inBlock, Exit.then])
  refine bodyPost_ret (by simp [results, Try.results20, go_sem, y0, y1, y2, y3, y4, y5]; try rfl) rfl ?_
  exact ⟨(Tr.mk 2 0 sn [] 0 0 (.slice (some ⟨w5.heap.size, 0, none⟩) 1 1) [t.own]), by simp only [Tr.k, Tr.d, Tr.tv, Tr.lo, Tr.hi, Tr.kv, sn], HF.out⟩
end Go.Proofs.Ytlfkhinmncbkcaa
