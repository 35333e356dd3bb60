/- made, one way through it. -/
import Derived.Test.YtlfkhinmncbkcaaMadeG
namespace Go.Proofs.Ytlfkhinmncbkcaa
open Go.RowKit Go.Sort

set_option maxHeartbeats 16000000 in
theorem made_and3true (N : Nat) (ih : MadeC N) (t : Tr) (ht : SizeOf.sizeOf t < N + 1) (w : World) (h : t.Ok w) (lim : t.Lim) (hz : t.sz ≤ 1000) (h3 : t.k = 3) :
    Calls Try.prog 31 #[.agg #[.int .i64 t.k, .int .i64 t.d, t.tv, .int .i64 t.lo, .int .i64 t.hi, t.kv], .bool true] w fun e w' =>
    ∃ t' : Tr, e = .returned (.agg #[.int .i64 t'.k, .int .i64 t'.d, t'.tv, .int .i64 t'.lo, .int .i64 t'.hi, t'.kv]) ∧ t'.Ok w' ∧ t'.From w.heap.size ∧ t'.er = t.turn true ∧ Below w.heap.size w w' := by
  obtain ⟨at', nt, ct, ak, nk, ck, e1, e2, hnk, hc1, hc2, hc3⟩ := h.lens
  unfold maxLen at hc2
  obtain ⟨W, hW⟩ : ∃ W, W = (w.alloc (.cells #[.int .i64 t.k, .int .i64 t.d, t.tv, .int .i64 t.lo, .int .i64 t.hi, t.kv] 27)).alloc (.cells #[.int .i64 0, .int .i64 0, .slice none 0 0, .int .i64 0, .int .i64 0, .slice none 0 0] 27) := ⟨_, rfl⟩
  have gW : Grows w W := by rw [hW]; exact (Grows.alloc _ _).trans (Grows.alloc _ _)
  have zW : W.heap.size = w.heap.size + 2 := by rw [hW]; simp
  have okW := h.up gW.below
  have hbox : ∀ w5, Below W.heap.size W w5 → (∀ c u, (#[.int .i64 t.k, .int .i64 t.d, t.tv, .int .i64 t.lo, .int .i64 t.hi, t.kv] : Array Value)[c]? = some u → w5.cell? ⟨w.heap.size, c, none⟩ = some u) ∧ (∀ c u, (#[Value.int .i64 0, .int .i64 0, .slice none 0 0, .int .i64 0, .int .i64 0, .slice none 0 0])[c]? = some u → w5.cell? ⟨w.heap.size + 1, c, none⟩ = some u) ∧ ∀ c, w5.frozen? ⟨w.heap.size + 1, c, none⟩ = false := fun w5 h5 => by
    have hs : w.heap.size + 1 = (w.alloc (.cells #[.int .i64 t.k, .int .i64 t.d, t.tv, .int .i64 t.lo, .int .i64 t.hi, t.kv] 27)).heap.size := by simp
    refine ⟨fun c u hc => ?_, fun c u hc => ?_, fun c => ?_⟩
    · rw [h5.cell (by rw [zW]; show w.heap.size < _; omega), hW]
      refine cell_alloc_sl _ ?_
      simpa using hc
    · rw [h5.cell (by rw [zW]; show w.heap.size + 1 < _; omega), hW, hs]
      simpa using hc
    · rw [h5.frozen (by rw [zW]; show w.heap.size + 1 < _; omega), hW, hs]
      simp
  have HBX : Aside _ := hbox
  have HG : Hid (Grows w W) := gW
  have HZW : Hid (W.heap.size = w.heap.size + 2) := zW
  have HW : Hid _ := hW
  have HO : Hid (t.Ok W ∧ t.Lim ∧ t.sz ≤ 1000 ∧ SizeOf.sizeOf t < N + 1) := ⟨okW, lim, hz, ht⟩
  have HE : Hid (t.tv = .slice at' nt ct ∧ t.kv = .slice ak nk ck) := ⟨e1, e2⟩
  have HI : Aside _ := ih
  have HNK : Hid (nk = t.ks.length) := hnk
  rw [e1, e2] at HW ⊢
  clear h ht lim hz gW zW hW okW hbox ih e1 e2 hnk hc3
  have HT : Hid _ := turn_and (t := t) (by omega) true
  have hr : RdsT W t.kv t.ks := HO.out.1.kids'
  have hkk : t.kids = t.ks := by unfold Tr.kids; rw [if_neg (by omega), if_pos (by omega)]
  have kA := allmade_of N HI.out true t.ks (fun c hc => by have := ks_lt hc; have := HO.out.2.2.2; omega) W t.kv hr (HO.out.2.1.kid) (by have h1 := t.sz_eq; rw [hkk] at h1; have := HO.out.2.2.1; omega)
  rw [HE.out.2, HW.out] at kA
  clear hr hkk
  have HT2 : Hid (t.turn true = .mk 4 0 sn [] 0 0 sn (t.ks.map fun c => c.turn true)) := by show _ = _; rw [HT.out, h3]; rfl
  clear HT
  have c3 : (t.k == 3) = true := by simp [h3]

  have hk7 : (7 : Int) - t.k = 4 := by omega
  have HK : Hid (t.k = 3) := h3
  clear h3
  go_enter Try.func31, Try.ntmps31
  go_wp2_with fail
  refine kA.mono ?_
  rintro e w6 ⟨n', c', rfl, l', rd', fr0, er0, b6⟩
  rw [← HW.out] at b6 rd' fr0
  rw [show W.heap.size = w.heap.size + 1 + 1 from HZW.out] at rd'
  obtain ⟨-, y, hfz⟩ := HBX.out w6 b6
  have ok' : (Tr.mk 4 0 sn [] 0 0 (.slice (some ⟨w.heap.size + 1 + 1, 0, none⟩) n' c') l').Ok w6 := .mk (Rds.nil w6) rd'.r rd'.ok
  have fr' : (Tr.mk 4 0 sn [] 0 0 (.slice (some ⟨w.heap.size + 1 + 1, 0, none⟩) n' c') l').From W.heap.size := .mk (vfrom_nil _) (fun a n c e => by cases e; exact Nat.le_of_eq HZW.out) fr0
  have er' : (Tr.mk 4 0 sn [] 0 0 (.slice (some ⟨w.heap.size + 1 + 1, 0, none⟩) n' c') l').er = .mk 4 0 sn [] 0 0 sn (t.ks.map fun c => c.turn true) := by rw [Tr.er_eq, ← er0]; rfl
  have y0 := y 0 _ rfl
  have y1 := y 1 _ rfl
  have y2 := y 2 _ rfl
  have y3 := y 3 _ rfl
  have y4 := y 4 _ rfl
  have y5 := y 5 _ rfl
  have hlt1 : w.heap.size + 1 < W.heap.size := by have := HZW.out; omega
  have hF : (Tr.mk 4 0 sn [] 0 0 (.slice (some ⟨w.heap.size + 1 + 1, 0, none⟩) n' c') l').Ok ((((((w6.setCell ⟨w.heap.size + 1, 0, none⟩ (.int .i64 4)).setCell ⟨w.heap.size + 1, 1, none⟩ (.int .i64 0)).setCell ⟨w.heap.size + 1, 2, none⟩ (.slice none 0 0)).setCell ⟨w.heap.size + 1, 3, none⟩ (.int .i64 0)).setCell ⟨w.heap.size + 1, 4, none⟩ (.int .i64 0)).setCell ⟨w.heap.size + 1, 5, none⟩ (.slice (some ⟨w.heap.size + 1 + 1, 0, none⟩) n' c')) ∧ (Tr.mk 4 0 sn [] 0 0 (.slice (some ⟨w.heap.size + 1 + 1, 0, none⟩) n' c') l').From w.heap.size ∧ (Tr.mk 4 0 sn [] 0 0 (.slice (some ⟨w.heap.size + 1 + 1, 0, none⟩) n' c') l').er = t.turn true ∧
      Below w.heap.size w ((((((w6.setCell ⟨w.heap.size + 1, 0, none⟩ (.int .i64 4)).setCell ⟨w.heap.size + 1, 1, none⟩ (.int .i64 0)).setCell ⟨w.heap.size + 1, 2, none⟩ (.slice none 0 0)).setCell ⟨w.heap.size + 1, 3, none⟩ (.int .i64 0)).setCell ⟨w.heap.size + 1, 4, none⟩ (.int .i64 0)).setCell ⟨w.heap.size + 1, 5, none⟩ (.slice (some ⟨w.heap.size + 1 + 1, 0, none⟩) n' c')) :=
    ⟨ok'.keep (keep6 hlt1 _ _ _ _ _ _ _ _ _ _ _ _) fr', fr'.mono (by have := HZW.out; omega), er'.trans HT2.out.symm, below6 (HG.out.below.trans (b6.mono HG.out.below.size)) (Nat.le_succ _) _ _ _ _ _ _ _ _ _ _ _ _⟩
  have HF : Hid _ := hF
  clear y hF hlt1
  clear kA b6 ok' fr' er' rd' fr0 er0
  go_wp2_with fail
  (try simp only [Exit.inBlock, Exit.then])
  refine bodyPost_ret (by simp [results, Try.results31, go_sem, y0, y1, y2, y3, y4, y5]; try rfl) rfl ?_
  exact ⟨(Tr.mk 4 0 sn [] 0 0 (.slice (some ⟨w.heap.size + 1 + 1, 0, none⟩) n' c') l'), by simp only [Tr.k, Tr.d, Tr.tv, Tr.lo, Tr.hi, Tr.kv, sn], HF.out⟩
set_option maxHeartbeats 16000000 in
theorem made_and3false (N : Nat) (ih : MadeC N) (t : Tr) (ht : SizeOf.sizeOf t < N + 1) (w : World) (h : t.Ok w) (lim : t.Lim) (hz : t.sz ≤ 1000) (h3 : t.k = 3) :
    Calls Try.prog 31 #[.agg #[.int .i64 t.k, .int .i64 t.d, t.tv, .int .i64 t.lo, .int .i64 t.hi, t.kv], .bool false] w fun e w' =>
    ∃ t' : Tr, e = .returned (.agg #[.int .i64 t'.k, .int .i64 t'.d, t'.tv, .int .i64 t'.lo, .int .i64 t'.hi, t'.kv]) ∧ t'.Ok w' ∧ t'.From w.heap.size ∧ t'.er = t.turn false ∧ Below w.heap.size w w' := by
  obtain ⟨at', nt, ct, ak, nk, ck, e1, e2, hnk, hc1, hc2, hc3⟩ := h.lens
  unfold maxLen at hc2
  obtain ⟨W, hW⟩ : ∃ W, W = (w.alloc (.cells #[.int .i64 t.k, .int .i64 t.d, t.tv, .int .i64 t.lo, .int .i64 t.hi, t.kv] 27)).alloc (.cells #[.int .i64 0, .int .i64 0, .slice none 0 0, .int .i64 0, .int .i64 0, .slice none 0 0] 27) := ⟨_, rfl⟩
  have gW : Grows w W := by rw [hW]; exact (Grows.alloc _ _).trans (Grows.alloc _ _)
  have zW : W.heap.size = w.heap.size + 2 := by rw [hW]; simp
  have okW := h.up gW.below
  have hbox : ∀ w5, Below W.heap.size W w5 → (∀ c u, (#[.int .i64 t.k, .int .i64 t.d, t.tv, .int .i64 t.lo, .int .i64 t.hi, t.kv] : Array Value)[c]? = some u → w5.cell? ⟨w.heap.size, c, none⟩ = some u) ∧ (∀ c u, (#[Value.int .i64 0, .int .i64 0, .slice none 0 0, .int .i64 0, .int .i64 0, .slice none 0 0])[c]? = some u → w5.cell? ⟨w.heap.size + 1, c, none⟩ = some u) ∧ ∀ c, w5.frozen? ⟨w.heap.size + 1, c, none⟩ = false := fun w5 h5 => by
    have hs : w.heap.size + 1 = (w.alloc (.cells #[.int .i64 t.k, .int .i64 t.d, t.tv, .int .i64 t.lo, .int .i64 t.hi, t.kv] 27)).heap.size := by simp
    refine ⟨fun c u hc => ?_, fun c u hc => ?_, fun c => ?_⟩
    · rw [h5.cell (by rw [zW]; show w.heap.size < _; omega), hW]
      refine cell_alloc_sl _ ?_
      simpa using hc
    · rw [h5.cell (by rw [zW]; show w.heap.size + 1 < _; omega), hW, hs]
      simpa using hc
    · rw [h5.frozen (by rw [zW]; show w.heap.size + 1 < _; omega), hW, hs]
      simp
  have HBX : Aside _ := hbox
  have HG : Hid (Grows w W) := gW
  have HZW : Hid (W.heap.size = w.heap.size + 2) := zW
  have HW : Hid _ := hW
  have HO : Hid (t.Ok W ∧ t.Lim ∧ t.sz ≤ 1000 ∧ SizeOf.sizeOf t < N + 1) := ⟨okW, lim, hz, ht⟩
  have HE : Hid (t.tv = .slice at' nt ct ∧ t.kv = .slice ak nk ck) := ⟨e1, e2⟩
  have HI : Aside _ := ih
  have HNK : Hid (nk = t.ks.length) := hnk
  rw [e1, e2] at HW ⊢
  clear h ht lim hz gW zW hW okW hbox ih e1 e2 hnk hc3
  have HT : Hid _ := turn_and (t := t) (by omega) false
  have hr : RdsT W t.kv t.ks := HO.out.1.kids'
  have hkk : t.kids = t.ks := by unfold Tr.kids; rw [if_neg (by omega), if_pos (by omega)]
  have kA := allmade_of N HI.out false t.ks (fun c hc => by have := ks_lt hc; have := HO.out.2.2.2; omega) W t.kv hr (HO.out.2.1.kid) (by have h1 := t.sz_eq; rw [hkk] at h1; have := HO.out.2.2.1; omega)
  rw [HE.out.2, HW.out] at kA
  clear hr hkk
  have HT2 : Hid (t.turn false = .mk t.k 0 sn [] 0 0 sn (t.ks.map fun c => c.turn false)) := by show _ = _; rw [HT.out]; rfl
  clear HT
  have c3 : (t.k == 3) = true := by simp [h3]

  have hk7 : (7 : Int) - t.k = 4 := by omega
  have HK : Hid (t.k = 3) := h3
  clear h3
  go_enter Try.func31, Try.ntmps31
  go_wp2_with fail
  refine kA.mono ?_
  rintro e w6 ⟨n', c', rfl, l', rd', fr0, er0, b6⟩
  rw [← HW.out] at b6 rd' fr0
  rw [show W.heap.size = w.heap.size + 1 + 1 from HZW.out] at rd'
  obtain ⟨-, y, hfz⟩ := HBX.out w6 b6
  have ok' : (Tr.mk t.k 0 sn [] 0 0 (.slice (some ⟨w.heap.size + 1 + 1, 0, none⟩) n' c') l').Ok w6 := .mk (Rds.nil w6) rd'.r rd'.ok
  have fr' : (Tr.mk t.k 0 sn [] 0 0 (.slice (some ⟨w.heap.size + 1 + 1, 0, none⟩) n' c') l').From W.heap.size := .mk (vfrom_nil _) (fun a n c e => by cases e; exact Nat.le_of_eq HZW.out) fr0
  have er' : (Tr.mk t.k 0 sn [] 0 0 (.slice (some ⟨w.heap.size + 1 + 1, 0, none⟩) n' c') l').er = .mk t.k 0 sn [] 0 0 sn (t.ks.map fun c => c.turn false) := by rw [Tr.er_eq, ← er0]; rfl
  have y0 := y 0 _ rfl
  have y1 := y 1 _ rfl
  have y2 := y 2 _ rfl
  have y3 := y 3 _ rfl
  have y4 := y 4 _ rfl
  have y5 := y 5 _ rfl
  have hlt1 : w.heap.size + 1 < W.heap.size := by have := HZW.out; omega
  have hF : (Tr.mk t.k 0 sn [] 0 0 (.slice (some ⟨w.heap.size + 1 + 1, 0, none⟩) n' c') l').Ok ((((((w6.setCell ⟨w.heap.size + 1, 0, none⟩ (.int .i64 t.k)).setCell ⟨w.heap.size + 1, 1, none⟩ (.int .i64 0)).setCell ⟨w.heap.size + 1, 2, none⟩ (.slice none 0 0)).setCell ⟨w.heap.size + 1, 3, none⟩ (.int .i64 0)).setCell ⟨w.heap.size + 1, 4, none⟩ (.int .i64 0)).setCell ⟨w.heap.size + 1, 5, none⟩ (.slice (some ⟨w.heap.size + 1 + 1, 0, none⟩) n' c')) ∧ (Tr.mk t.k 0 sn [] 0 0 (.slice (some ⟨w.heap.size + 1 + 1, 0, none⟩) n' c') l').From w.heap.size ∧ (Tr.mk t.k 0 sn [] 0 0 (.slice (some ⟨w.heap.size + 1 + 1, 0, none⟩) n' c') l').er = t.turn false ∧
      Below w.heap.size w ((((((w6.setCell ⟨w.heap.size + 1, 0, none⟩ (.int .i64 t.k)).setCell ⟨w.heap.size + 1, 1, none⟩ (.int .i64 0)).setCell ⟨w.heap.size + 1, 2, none⟩ (.slice none 0 0)).setCell ⟨w.heap.size + 1, 3, none⟩ (.int .i64 0)).setCell ⟨w.heap.size + 1, 4, none⟩ (.int .i64 0)).setCell ⟨w.heap.size + 1, 5, none⟩ (.slice (some ⟨w.heap.size + 1 + 1, 0, none⟩) n' c')) :=
    ⟨ok'.keep (keep6 hlt1 _ _ _ _ _ _ _ _ _ _ _ _) fr', fr'.mono (by have := HZW.out; omega), er'.trans HT2.out.symm, below6 (HG.out.below.trans (b6.mono HG.out.below.size)) (Nat.le_succ _) _ _ _ _ _ _ _ _ _ _ _ _⟩
  have HF : Hid _ := hF
  clear y hF hlt1
  clear kA b6 ok' fr' er' rd' fr0 er0
  go_wp2_with fail
  (try simp only [Exit.inBlock, Exit.then])
  refine bodyPost_ret (by simp [results, Try.results31, go_sem, y0, y1, y2, y3, y4, y5]; try rfl) rfl ?_
  exact ⟨(Tr.mk t.k 0 sn [] 0 0 (.slice (some ⟨w.heap.size + 1 + 1, 0, none⟩) n' c') l'), by simp only [Tr.k, Tr.d, Tr.tv, Tr.lo, Tr.hi, Tr.kv, sn], HF.out⟩
set_option maxHeartbeats 16000000 in
theorem made_and4true (N : Nat) (ih : MadeC N) (t : Tr) (ht : SizeOf.sizeOf t < N + 1) (w : World) (h : t.Ok w) (lim : t.Lim) (hz : t.sz ≤ 1000) (h3 : t.k = 4) :
    Calls Try.prog 31 #[.agg #[.int .i64 t.k, .int .i64 t.d, t.tv, .int .i64 t.lo, .int .i64 t.hi, t.kv], .bool true] w fun e w' =>
    ∃ t' : Tr, e = .returned (.agg #[.int .i64 t'.k, .int .i64 t'.d, t'.tv, .int .i64 t'.lo, .int .i64 t'.hi, t'.kv]) ∧ t'.Ok w' ∧ t'.From w.heap.size ∧ t'.er = t.turn true ∧ Below w.heap.size w w' := by
  obtain ⟨at', nt, ct, ak, nk, ck, e1, e2, hnk, hc1, hc2, hc3⟩ := h.lens
  unfold maxLen at hc2
  obtain ⟨W, hW⟩ : ∃ W, W = (w.alloc (.cells #[.int .i64 t.k, .int .i64 t.d, t.tv, .int .i64 t.lo, .int .i64 t.hi, t.kv] 27)).alloc (.cells #[.int .i64 0, .int .i64 0, .slice none 0 0, .int .i64 0, .int .i64 0, .slice none 0 0] 27) := ⟨_, rfl⟩
  have gW : Grows w W := by rw [hW]; exact (Grows.alloc _ _).trans (Grows.alloc _ _)
  have zW : W.heap.size = w.heap.size + 2 := by rw [hW]; simp
  have okW := h.up gW.below
  have hbox : ∀ w5, Below W.heap.size W w5 → (∀ c u, (#[.int .i64 t.k, .int .i64 t.d, t.tv, .int .i64 t.lo, .int .i64 t.hi, t.kv] : Array Value)[c]? = some u → w5.cell? ⟨w.heap.size, c, none⟩ = some u) ∧ (∀ c u, (#[Value.int .i64 0, .int .i64 0, .slice none 0 0, .int .i64 0, .int .i64 0, .slice none 0 0])[c]? = some u → w5.cell? ⟨w.heap.size + 1, c, none⟩ = some u) ∧ ∀ c, w5.frozen? ⟨w.heap.size + 1, c, none⟩ = false := fun w5 h5 => by
    have hs : w.heap.size + 1 = (w.alloc (.cells #[.int .i64 t.k, .int .i64 t.d, t.tv, .int .i64 t.lo, .int .i64 t.hi, t.kv] 27)).heap.size := by simp
    refine ⟨fun c u hc => ?_, fun c u hc => ?_, fun c => ?_⟩
    · rw [h5.cell (by rw [zW]; show w.heap.size < _; omega), hW]
      refine cell_alloc_sl _ ?_
      simpa using hc
    · rw [h5.cell (by rw [zW]; show w.heap.size + 1 < _; omega), hW, hs]
      simpa using hc
    · rw [h5.frozen (by rw [zW]; show w.heap.size + 1 < _; omega), hW, hs]
      simp
  have HBX : Aside _ := hbox
  have HG : Hid (Grows w W) := gW
  have HZW : Hid (W.heap.size = w.heap.size + 2) := zW
  have HW : Hid _ := hW
  have HO : Hid (t.Ok W ∧ t.Lim ∧ t.sz ≤ 1000 ∧ SizeOf.sizeOf t < N + 1) := ⟨okW, lim, hz, ht⟩
  have HE : Hid (t.tv = .slice at' nt ct ∧ t.kv = .slice ak nk ck) := ⟨e1, e2⟩
  have HI : Aside _ := ih
  have HNK : Hid (nk = t.ks.length) := hnk
  rw [e1, e2] at HW ⊢
  clear h ht lim hz gW zW hW okW hbox ih e1 e2 hnk hc3
  have HT : Hid _ := turn_and (t := t) (by omega) true
  have hr : RdsT W t.kv t.ks := HO.out.1.kids'
  have hkk : t.kids = t.ks := by unfold Tr.kids; rw [if_neg (by omega), if_pos (by omega)]
  have kA := allmade_of N HI.out true t.ks (fun c hc => by have := ks_lt hc; have := HO.out.2.2.2; omega) W t.kv hr (HO.out.2.1.kid) (by have h1 := t.sz_eq; rw [hkk] at h1; have := HO.out.2.2.1; omega)
  rw [HE.out.2, HW.out] at kA
  clear hr hkk
  have HT2 : Hid (t.turn true = .mk 3 0 sn [] 0 0 sn (t.ks.map fun c => c.turn true)) := by show _ = _; rw [HT.out, h3]; rfl
  clear HT
  have c4 : (t.k == 4) = true := by simp [h3]
  have c3 : (t.k == 3) = false := by simp [h3]
  have hk7 : (7 : Int) - t.k = 3 := by omega
  have HK : Hid (t.k = 4) := h3
  clear h3
  go_enter Try.func31, Try.ntmps31
  go_wp2_with fail
  refine kA.mono ?_
  rintro e w6 ⟨n', c', rfl, l', rd', fr0, er0, b6⟩
  rw [← HW.out] at b6 rd' fr0
  rw [show W.heap.size = w.heap.size + 1 + 1 from HZW.out] at rd'
  obtain ⟨-, y, hfz⟩ := HBX.out w6 b6
  have ok' : (Tr.mk 3 0 sn [] 0 0 (.slice (some ⟨w.heap.size + 1 + 1, 0, none⟩) n' c') l').Ok w6 := .mk (Rds.nil w6) rd'.r rd'.ok
  have fr' : (Tr.mk 3 0 sn [] 0 0 (.slice (some ⟨w.heap.size + 1 + 1, 0, none⟩) n' c') l').From W.heap.size := .mk (vfrom_nil _) (fun a n c e => by cases e; exact Nat.le_of_eq HZW.out) fr0
  have er' : (Tr.mk 3 0 sn [] 0 0 (.slice (some ⟨w.heap.size + 1 + 1, 0, none⟩) n' c') l').er = .mk 3 0 sn [] 0 0 sn (t.ks.map fun c => c.turn true) := by rw [Tr.er_eq, ← er0]; rfl
  have y0 := y 0 _ rfl
  have y1 := y 1 _ rfl
  have y2 := y 2 _ rfl
  have y3 := y 3 _ rfl
  have y4 := y 4 _ rfl
  have y5 := y 5 _ rfl
  have hlt1 : w.heap.size + 1 < W.heap.size := by have := HZW.out; omega
  have hF : (Tr.mk 3 0 sn [] 0 0 (.slice (some ⟨w.heap.size + 1 + 1, 0, none⟩) n' c') l').Ok ((((((w6.setCell ⟨w.heap.size + 1, 0, none⟩ (.int .i64 3)).setCell ⟨w.heap.size + 1, 1, none⟩ (.int .i64 0)).setCell ⟨w.heap.size + 1, 2, none⟩ (.slice none 0 0)).setCell ⟨w.heap.size + 1, 3, none⟩ (.int .i64 0)).setCell ⟨w.heap.size + 1, 4, none⟩ (.int .i64 0)).setCell ⟨w.heap.size + 1, 5, none⟩ (.slice (some ⟨w.heap.size + 1 + 1, 0, none⟩) n' c')) ∧ (Tr.mk 3 0 sn [] 0 0 (.slice (some ⟨w.heap.size + 1 + 1, 0, none⟩) n' c') l').From w.heap.size ∧ (Tr.mk 3 0 sn [] 0 0 (.slice (some ⟨w.heap.size + 1 + 1, 0, none⟩) n' c') l').er = t.turn true ∧
      Below w.heap.size w ((((((w6.setCell ⟨w.heap.size + 1, 0, none⟩ (.int .i64 3)).setCell ⟨w.heap.size + 1, 1, none⟩ (.int .i64 0)).setCell ⟨w.heap.size + 1, 2, none⟩ (.slice none 0 0)).setCell ⟨w.heap.size + 1, 3, none⟩ (.int .i64 0)).setCell ⟨w.heap.size + 1, 4, none⟩ (.int .i64 0)).setCell ⟨w.heap.size + 1, 5, none⟩ (.slice (some ⟨w.heap.size + 1 + 1, 0, none⟩) n' c')) :=
    ⟨ok'.keep (keep6 hlt1 _ _ _ _ _ _ _ _ _ _ _ _) fr', fr'.mono (by have := HZW.out; omega), er'.trans HT2.out.symm, below6 (HG.out.below.trans (b6.mono HG.out.below.size)) (Nat.le_succ _) _ _ _ _ _ _ _ _ _ _ _ _⟩
  have HF : Hid _ := hF
  clear y hF hlt1
  clear kA b6 ok' fr' er' rd' fr0 er0
  go_wp2_with fail
  (try simp only [Exit.inBlock, Exit.then])
  refine bodyPost_ret (by simp [results, Try.results31, go_sem, y0, y1, y2, y3, y4, y5]; try rfl) rfl ?_
  exact ⟨(Tr.mk 3 0 sn [] 0 0 (.slice (some ⟨w.heap.size + 1 + 1, 0, none⟩) n' c') l'), by simp only [Tr.k, Tr.d, Tr.tv, Tr.lo, Tr.hi, Tr.kv, sn], HF.out⟩
set_option maxHeartbeats 16000000 in
theorem made_and4false (N : Nat) (ih : MadeC N) (t : Tr) (ht : SizeOf.sizeOf t < N + 1) (w : World) (h : t.Ok w) (lim : t.Lim) (hz : t.sz ≤ 1000) (h3 : t.k = 4) :
    Calls Try.prog 31 #[.agg #[.int .i64 t.k, .int .i64 t.d, t.tv, .int .i64 t.lo, .int .i64 t.hi, t.kv], .bool false] w fun e w' =>
    ∃ t' : Tr, e = .returned (.agg #[.int .i64 t'.k, .int .i64 t'.d, t'.tv, .int .i64 t'.lo, .int .i64 t'.hi, t'.kv]) ∧ t'.Ok w' ∧ t'.From w.heap.size ∧ t'.er = t.turn false ∧ Below w.heap.size w w' := by
  obtain ⟨at', nt, ct, ak, nk, ck, e1, e2, hnk, hc1, hc2, hc3⟩ := h.lens
  unfold maxLen at hc2
  obtain ⟨W, hW⟩ : ∃ W, W = (w.alloc (.cells #[.int .i64 t.k, .int .i64 t.d, t.tv, .int .i64 t.lo, .int .i64 t.hi, t.kv] 27)).alloc (.cells #[.int .i64 0, .int .i64 0, .slice none 0 0, .int .i64 0, .int .i64 0, .slice none 0 0] 27) := ⟨_, rfl⟩
  have gW : Grows w W := by rw [hW]; exact (Grows.alloc _ _).trans (Grows.alloc _ _)
  have zW : W.heap.size = w.heap.size + 2 := by rw [hW]; simp
  have okW := h.up gW.below
  have hbox : ∀ w5, Below W.heap.size W w5 → (∀ c u, (#[.int .i64 t.k, .int .i64 t.d, t.tv, .int .i64 t.lo, .int .i64 t.hi, t.kv] : Array Value)[c]? = some u → w5.cell? ⟨w.heap.size, c, none⟩ = some u) ∧ (∀ c u, (#[Value.int .i64 0, .int .i64 0, .slice none 0 0, .int .i64 0, .int .i64 0, .slice none 0 0])[c]? = some u → w5.cell? ⟨w.heap.size + 1, c, none⟩ = some u) ∧ ∀ c, w5.frozen? ⟨w.heap.size + 1, c, none⟩ = false := fun w5 h5 => by
    have hs : w.heap.size + 1 = (w.alloc (.cells #[.int .i64 t.k, .int .i64 t.d, t.tv, .int .i64 t.lo, .int .i64 t.hi, t.kv] 27)).heap.size := by simp
    refine ⟨fun c u hc => ?_, fun c u hc => ?_, fun c => ?_⟩
    · rw [h5.cell (by rw [zW]; show w.heap.size < _; omega), hW]
      refine cell_alloc_sl _ ?_
      simpa using hc
    · rw [h5.cell (by rw [zW]; show w.heap.size + 1 < _; omega), hW, hs]
      simpa using hc
    · rw [h5.frozen (by rw [zW]; show w.heap.size + 1 < _; omega), hW, hs]
      simp
  have HBX : Aside _ := hbox
  have HG : Hid (Grows w W) := gW
  have HZW : Hid (W.heap.size = w.heap.size + 2) := zW
  have HW : Hid _ := hW
  have HO : Hid (t.Ok W ∧ t.Lim ∧ t.sz ≤ 1000 ∧ SizeOf.sizeOf t < N + 1) := ⟨okW, lim, hz, ht⟩
  have HE : Hid (t.tv = .slice at' nt ct ∧ t.kv = .slice ak nk ck) := ⟨e1, e2⟩
  have HI : Aside _ := ih
  have HNK : Hid (nk = t.ks.length) := hnk
  rw [e1, e2] at HW ⊢
  clear h ht lim hz gW zW hW okW hbox ih e1 e2 hnk hc3
  have HT : Hid _ := turn_and (t := t) (by omega) false
  have hr : RdsT W t.kv t.ks := HO.out.1.kids'
  have hkk : t.kids = t.ks := by unfold Tr.kids; rw [if_neg (by omega), if_pos (by omega)]
  have kA := allmade_of N HI.out false t.ks (fun c hc => by have := ks_lt hc; have := HO.out.2.2.2; omega) W t.kv hr (HO.out.2.1.kid) (by have h1 := t.sz_eq; rw [hkk] at h1; have := HO.out.2.2.1; omega)
  rw [HE.out.2, HW.out] at kA
  clear hr hkk
  have HT2 : Hid (t.turn false = .mk t.k 0 sn [] 0 0 sn (t.ks.map fun c => c.turn false)) := by show _ = _; rw [HT.out]; rfl
  clear HT
  have c4 : (t.k == 4) = true := by simp [h3]
  have c3 : (t.k == 3) = false := by simp [h3]
  have hk7 : (7 : Int) - t.k = 3 := by omega
  have HK : Hid (t.k = 4) := h3
  clear h3
  go_enter Try.func31, Try.ntmps31
  go_wp2_with fail
  refine kA.mono ?_
  rintro e w6 ⟨n', c', rfl, l', rd', fr0, er0, b6⟩
  rw [← HW.out] at b6 rd' fr0
  rw [show W.heap.size = w.heap.size + 1 + 1 from HZW.out] at rd'
  obtain ⟨-, y, hfz⟩ := HBX.out w6 b6
  have ok' : (Tr.mk t.k 0 sn [] 0 0 (.slice (some ⟨w.heap.size + 1 + 1, 0, none⟩) n' c') l').Ok w6 := .mk (Rds.nil w6) rd'.r rd'.ok
  have fr' : (Tr.mk t.k 0 sn [] 0 0 (.slice (some ⟨w.heap.size + 1 + 1, 0, none⟩) n' c') l').From W.heap.size := .mk (vfrom_nil _) (fun a n c e => by cases e; exact Nat.le_of_eq HZW.out) fr0
  have er' : (Tr.mk t.k 0 sn [] 0 0 (.slice (some ⟨w.heap.size + 1 + 1, 0, none⟩) n' c') l').er = .mk t.k 0 sn [] 0 0 sn (t.ks.map fun c => c.turn false) := by rw [Tr.er_eq, ← er0]; rfl
  have y0 := y 0 _ rfl
  have y1 := y 1 _ rfl
  have y2 := y 2 _ rfl
  have y3 := y 3 _ rfl
  have y4 := y 4 _ rfl
  have y5 := y 5 _ rfl
  have hlt1 : w.heap.size + 1 < W.heap.size := by have := HZW.out; omega
  have hF : (Tr.mk t.k 0 sn [] 0 0 (.slice (some ⟨w.heap.size + 1 + 1, 0, none⟩) n' c') l').Ok ((((((w6.setCell ⟨w.heap.size + 1, 0, none⟩ (.int .i64 t.k)).setCell ⟨w.heap.size + 1, 1, none⟩ (.int .i64 0)).setCell ⟨w.heap.size + 1, 2, none⟩ (.slice none 0 0)).setCell ⟨w.heap.size + 1, 3, none⟩ (.int .i64 0)).setCell ⟨w.heap.size + 1, 4, none⟩ (.int .i64 0)).setCell ⟨w.heap.size + 1, 5, none⟩ (.slice (some ⟨w.heap.size + 1 + 1, 0, none⟩) n' c')) ∧ (Tr.mk t.k 0 sn [] 0 0 (.slice (some ⟨w.heap.size + 1 + 1, 0, none⟩) n' c') l').From w.heap.size ∧ (Tr.mk t.k 0 sn [] 0 0 (.slice (some ⟨w.heap.size + 1 + 1, 0, none⟩) n' c') l').er = t.turn false ∧
      Below w.heap.size w ((((((w6.setCell ⟨w.heap.size + 1, 0, none⟩ (.int .i64 t.k)).setCell ⟨w.heap.size + 1, 1, none⟩ (.int .i64 0)).setCell ⟨w.heap.size + 1, 2, none⟩ (.slice none 0 0)).setCell ⟨w.heap.size + 1, 3, none⟩ (.int .i64 0)).setCell ⟨w.heap.size + 1, 4, none⟩ (.int .i64 0)).setCell ⟨w.heap.size + 1, 5, none⟩ (.slice (some ⟨w.heap.size + 1 + 1, 0, none⟩) n' c')) :=
    ⟨ok'.keep (keep6 hlt1 _ _ _ _ _ _ _ _ _ _ _ _) fr', fr'.mono (by have := HZW.out; omega), er'.trans HT2.out.symm, below6 (HG.out.below.trans (b6.mono HG.out.below.size)) (Nat.le_succ _) _ _ _ _ _ _ _ _ _ _ _ _⟩
  have HF : Hid _ := hF
  clear y hF hlt1
  clear kA b6 ok' fr' er' rd' fr0 er0
  go_wp2_with fail
  (try simp only [Exit.inBlock, Exit.then])
  refine bodyPost_ret (by simp [results, Try.results31, go_sem, y0, y1, y2, y3, y4, y5]; try rfl) rfl ?_
  exact ⟨(Tr.mk t.k 0 sn [] 0 0 (.slice (some ⟨w.heap.size + 1 + 1, 0, none⟩) n' c') l'), by simp only [Tr.k, Tr.d, Tr.tv, Tr.lo, Tr.hi, Tr.kv, sn], HF.out⟩
end Go.Proofs.Ytlfkhinmncbkcaa
