/- The reference's Made, one way through it. -/
import Derived.Test.YtlfkhinmncbkcaaMInv
namespace Go.Proofs.Ytlfkhinmncbkcaa
open Go.RowKit Go.Sort

set_option maxHeartbeats 16000000 in
theorem rmade_and4true (D M : Int) (B0 N : Nat) (ih : RMadeC D M B0 N) (t : Tr) (ht : SizeOf.sizeOf t < N + 1) (w : World) (hB : B0 ≤ w.heap.size) (h : t.Ok w) (off : t.Off (· < B0)) (hf : t.fitA D M = true) (hz : t.sz ≤ 1000) (h3 : t.k = 4) :
    Calls Try.prog 20 #[.agg #[.int .i64 t.k, .int .i64 t.d, t.tv, .int .i64 t.lo, .int .i64 t.hi, t.kv], .bool true] w fun e w' =>
      ∃ t' : Tr, e = .returned (.agg #[.int .i64 t'.k, .int .i64 t'.d, t'.tv, .int .i64 t'.lo, .int .i64 t'.hi, t'.kv]) ∧ t'.Ok w' ∧ t'.Off (fun k => k < B0 ∨ w.heap.size ≤ k) ∧ t'.er = t.turn true ∧ Below w.heap.size w w' := by
  obtain ⟨at', nt, ct, ak, nk, ck, e1, e2, hnk, hc1, hc2, hc3⟩ := h.lens
  unfold maxLen at hc2
  obtain ⟨W0, hW0⟩ : ∃ W, W = w.alloc (.cells #[.int .i64 t.k, .int .i64 t.d, t.tv, .int .i64 t.lo, .int .i64 t.hi, t.kv] 27) := ⟨_, rfl⟩
  obtain ⟨W, hW1⟩ : ∃ W, W = W0.alloc (.cells #[.int .i64 0, .int .i64 0, .slice none 0 0, .int .i64 0, .int .i64 0, .slice none 0 0] 27) := ⟨_, rfl⟩
  have s0 : W0.heap.size = w.heap.size + 1 := by rw [hW0]; simp
  have zW : W.heap.size = w.heap.size + 1 + 1 := by rw [hW1]; simp [s0]
  have gW : Grows w W := by rw [hW1, hW0]; exact (Grows.alloc _ _).trans (Grows.alloc _ _)
  have cc : ∀ c u, #[Value.int .i64 t.k, .int .i64 t.d, t.tv, .int .i64 t.lo, .int .i64 t.hi, t.kv][c]? = some u → W.cell? ⟨w.heap.size, c, none⟩ = some u := fun c u hc => by
    rw [hW1, hW0]; exact cell_alloc_sl _ (al_new _ _ _ rfl hc)
  have cz : ∀ c u, #[Value.int .i64 0, .int .i64 0, .slice none 0 0, .int .i64 0, .int .i64 0, .slice none 0 0][c]? = some u → W.cell? ⟨w.heap.size + 1, c, none⟩ = some u := fun c u hc => by
    rw [hW1]; exact al_new _ _ _ s0.symm hc
  have hfz : ∀ c, W.frozen? ⟨w.heap.size + 1, c, none⟩ = false := fun c => by
    rw [hW1, ← s0]; simp
  have hW : W = (w.alloc (.cells #[.int .i64 t.k, .int .i64 t.d, t.tv, .int .i64 t.lo, .int .i64 t.hi, t.kv] 27)).alloc (.cells #[.int .i64 0, .int .i64 0, .slice none 0 0, .int .i64 0, .int .i64 0, .slice none 0 0] 27) := by rw [hW1, hW0]
  have hbox : ∀ w5, Below W.heap.size W w5 → (∀ c u, #[Value.int .i64 t.k, .int .i64 t.d, t.tv, .int .i64 t.lo, .int .i64 t.hi, t.kv][c]? = some u → w5.cell? ⟨w.heap.size, c, none⟩ = some u) ∧ (∀ c u, #[Value.int .i64 0, .int .i64 0, .slice none 0 0, .int .i64 0, .int .i64 0, .slice none 0 0][c]? = some u → w5.cell? ⟨w.heap.size + 1, c, none⟩ = some u) ∧ ∀ c, w5.frozen? ⟨w.heap.size + 1, c, none⟩ = false := fun w5 h5 =>
    ⟨fun c u hc => cell_up h5 (cc c u hc), fun c u hc => cell_up h5 (cz c u hc), fun c => by rw [h5.frozen (by rw [zW]; show w.heap.size + 1 < _; omega)]; exact hfz c⟩
  have HBX : Aside _ := hbox
  have HG : Hid (Grows w W) := gW
  have HZW : Hid (W.heap.size = w.heap.size + 1 + 1 ∧ B0 ≤ w.heap.size) := ⟨zW, hB⟩
  have HW : Hid _ := hW
  have HO : Hid (t.Ok W ∧ t.Off (· < B0) ∧ t.fitA D M = true ∧ t.sz ≤ 1000 ∧ SizeOf.sizeOf t < N + 1) := ⟨h.up gW.below, off, hf, hz, ht⟩
  have HE : Hid (t.tv = .slice at' nt ct ∧ t.kv = .slice ak nk ck) := ⟨e1, e2⟩
  have HI : Aside _ := ih
  have HNK : Hid (nk = t.ks.length) := hnk
  rw [e1, e2] at HW ⊢
  clear h ht off hf hz gW zW hW hW0 hW1 s0 cc cz hfz hbox ih e1 e2 hnk hc3 hB
  obtain ⟨i0, hi, hy0, hy1, hy2⟩ := info_parts Try.info_filter
  have HT0 := turn_and (t := t) (by omega) true
  have HT : Hid (t.turn true = .mk 3 0 sn [] 0 0 sn (t.ks.map fun c => c.turn true)) := by show _ = _; rw [HT0, h3]; rfl
  clear HT0
  have c2 : (t.k == 2) = false := by simp [h3]
  have c3 : (t.k == 3) = false := by simp [h3]
  have c4 : (t.k == 4) = true := by simp [h3]
  have hk7 : (7 : Int) - t.k = 3 := by omega
  have hkk : t.kids = t.ks := and_kids (by omega)
  have hr := HO.out.1.kids'
  rw [HE.out.2] at hr
  have HRK : Hid (RdsT W (.slice ak nk ck) t.ks) := hr
  have hn1 : nk ≤ 1000 := by have h1 := t.sz_eq; rw [hkk] at h1; have := szL_len t.ks; have := HO.out.2.2.2.1; have := HNK.out; omega
  have HKS : Hid (∀ c ∈ t.ks, c.fitA D M = true ∧ c.sz ≤ 1000 ∧ c.Off (· < B0) ∧ SizeOf.sizeOf c < N) := fun c hc => by
    have h1 := HO.out.2.2.1
    rw [t.fitA_eq, hkk, Bool.and_eq_true, fitL_mem] at h1
    obtain ⟨i, hi, rfl⟩ := List.mem_iff_getElem.1 hc
    refine ⟨h1.2 _ hc, ?_, HO.out.2.1.kid _ hc, by have := ks_lt hc; have := HO.out.2.2.2.2; omega⟩
    have h2 := t.sz_eq
    rw [hkk] at h2
    have := szL_at t.ks i hi
    have := HO.out.2.2.2.1
    omega
  obtain ⟨U, hU⟩ : ∃ U, U = W.alloc (.cells #[.int .i64 3, .int .i64 0, .slice none 0 0, .int .i64 0, .int .i64 0, .slice none 0 0] 27) := ⟨_, rfl⟩
  have hM0 : MInv B0 (w.heap.size + 1 + 1) 3 true t.ks W U 0 [] (.slice none 0 0) := by
    have g2 : w.heap.size + 1 + 1 = W.heap.size := HZW.out.1.symm
    have cu : ∀ c u, (#[Value.int .i64 3, .int .i64 0, .slice none 0 0, .int .i64 0, .int .i64 0, .slice none 0 0])[c]? = some u → U.cell? ⟨w.heap.size + 1 + 1, c, none⟩ = some u := fun c u hc => by rw [hU]; exact al_new _ _ _ g2 hc
    refine ⟨rfl, World.ownsRow_nil _ _ _ _, ⟨cu 0 _ rfl, cu 1 _ rfl, cu 2 _ rfl, cu 3 _ rfl, cu 4 _ rfl, cu 5 _ rfl⟩, fun c => by rw [hU, g2]; simp, (fun t ht => by cases ht), rfl, ?_, ?_⟩
    · rw [hU, g2]; exact (Below.refl _ _).alloc (Nat.le_refl _) _
    · rw [hU, g2]; simp
  have HM0 : Hid _ := hM0
  have HU : Hid _ := hU
  have HK3 : Hid (t.k = 4) := h3
  rw [HW.out] at HU
  clear hkk hr hU hM0 h3
  go_enter Try.func20, Try.ntmps20
  go_wp2_with fail
  rw [← HU.out]
  go_loopg [6] nk (fun kx vi wr => ∃ (i : Nat) (l' : List Tr) (vk : Value), vi = .int .i64 i ∧ i ≤ nk ∧ nk - i ≤ kx ∧ Hid (MInv B0 (w.heap.size + 1 + 1) 3 true t.ks W wr i l' vk))
  case atStart => exact ⟨0, [], .slice none 0 0, rfl, by omega, Nat.le_refl _, HM0⟩
  case round =>
    obtain ⟨i, l', vk, rfl, hi', hkx, HM⟩ := hrel
    obtain ⟨av, nv, cv, rfl⟩ := own_sl6 HM.out.own
    have bW : Below W.heap.size W wr := by rw [HZW.out.1]; exact HM.out.bel
    obtain ⟨yf, yz, yfz⟩ := HBX.out wr bW
    have f5 := yf 5 _ rfl
    rw [HE.out.2] at f5
    obtain ⟨o0, o1, o2, o3, o4, o5⟩ := HM.out.box
    by_cases hlt : i < nk
    · have hltz : (i : Int) < (nk : Int) := by omega
      have hil : i < t.ks.length := by have := HNK.out; omega
      have hrr := RdsT.below HRK.out bW
      obtain ⟨bk, off, rfl, hcell⟩ := hrr.at (by omega)
      obtain ⟨q0, q1, q2, q3, q4, q5⟩ := hcell i hil
      have okx := hrr.ok t.ks[i] (List.getElem_mem hil)
      obtain ⟨hfx, hsx, hox, hzx⟩ := HKS.out t.ks[i] (List.getElem_mem hil)
      have hszr : w.heap.size + 1 + 1 < wr.heap.size := HM.out.sz
      have REST : Aside (∀ (t' : Tr) (w6 : World) (at6 : Option Addr) (nt6 ct6 : Nat) (ak6 : Option Addr) (nk6 ck6 : Nat), t'.tv = .slice at6 nt6 ct6 → t'.kv = .slice ak6 nk6 ck6 → t'.Ok w6 → t'.Off (fun k => k < B0 ∨ wr.heap.size ≤ k) → t'.er = t.ks[i].turn true → Below wr.heap.size wr w6 →
          w6.cell? ⟨w.heap.size + 1 + 1, 5, none⟩ = some (.slice av nv cv) ∧ (∀ o, (w6.alloc o).cell? ⟨w.heap.size + 1 + 1, 5, none⟩ = some (.slice av nv cv)) ∧ (w6.alloc (.cells #[.int .i64 t'.k, .int .i64 t'.d, .slice at6 nt6 ct6, .int .i64 t'.lo, .int .i64 t'.hi, .slice ak6 nk6 ck6] 27)).ownsRow (w.heap.size + 1 + 1 + 1) 27 6 (.slice av nv cv) i (tvs l') ∧
          (∀ j u, (tvs [t'])[j]? = some u → (w6.alloc (.cells #[.int .i64 t'.k, .int .i64 t'.d, .slice at6 nt6 ct6, .int .i64 t'.lo, .int .i64 t'.hi, .slice ak6 nk6 ck6] 27)).cell? ((⟨w6.heap.size, 0, none⟩ : Addr).add j) = some u) ∧ (∀ u ∈ tvs [t'], u.oneCell' = true) ∧ w.heap.size + 1 + 1 + 1 ≤ (w6.alloc (.cells #[.int .i64 t'.k, .int .i64 t'.d, .slice at6 nt6 ct6, .int .i64 t'.lo, .int .i64 t'.hi, .slice ak6 nk6 ck6] 27)).heap.size ∧
          Aside (∀ (g cap : Nat) (w8 : World), w8.ownsRow (w.heap.size + 1 + 1 + 1) 27 6 (.slice (some ⟨g, 0, none⟩) (i + 1) cap) (i + 1) (tvs l' ++ tvs [t']) → (w6.alloc (.cells #[.int .i64 t'.k, .int .i64 t'.d, .slice at6 nt6 ct6, .int .i64 t'.lo, .int .i64 t'.hi, .slice ak6 nk6 ck6] 27)).grownBy w8 (Value.slice av nv cv).ownBlock → ((Value.slice av nv cv).ownBlock = some g ∨ g = w6.heap.size + 1) →
            w8.cell? ⟨w.heap.size + 1 + 1, 5, none⟩ = some (.slice av nv cv) ∧ (∀ c, w8.frozen? ⟨w.heap.size + 1 + 1, c, none⟩ = false) ∧ Hid (MInv B0 (w.heap.size + 1 + 1) 3 true t.ks W (w8.setCell ⟨w.heap.size + 1 + 1, 5, none⟩ (.slice (some ⟨g, 0, none⟩) (i + 1) cap)) (i + 1) (l' ++ [t']) (.slice (some ⟨g, 0, none⟩) (i + 1) cap)))) := fun t' w6 at6 nt6 ct6 ak6 nk6 ck6 j1 j2 ok6 of6 er6 b6 => by
        have z5 : w6.cell? ⟨w.heap.size + 1 + 1, 5, none⟩ = some (.slice av nv cv) := cell_up b6 o5
        have hB2 : B0 ≤ w.heap.size + 1 + 1 := by have := HZW.out.2; omega
        have hn2 : (Value.slice av nv cv).ownBlock ≠ some (w.heap.size + 1 + 1) := fun e => by have := (ownBlock_in HM.out.own e).1; omega
        refine ⟨z5, fun o => cell_alloc_sl o z5, (ownK_below HM.out.own b6).alloc _, ?_, ?_, ?_, fun g cap w8 hown8 hgrow8 hat8 => ⟨?_, fun c => ?_, ?_⟩⟩
        · have r1 := (one_tr w6 t' ok6 w6.heap.size rfl).r
          rw [j1, j2] at r1
          obtain ⟨ao, cap, e, -, -, -, -, hc⟩ := r1
          simp only [Value.slice.injEq] at e
          obtain ⟨rfl, -, -⟩ := e
          exact hc _ rfl
        · intro u hu
          simp only [tvs, Tr.cells, List.flatMap_cons, List.flatMap_nil, List.append_nil, j1, j2, List.mem_cons, List.not_mem_nil, or_false] at hu
          rcases hu with rfl | rfl | rfl | rfl | rfl | rfl <;> rfl
        · have := b6.size; simp; omega
        · rw [hgrow8.cell_far ⟨w.heap.size + 1 + 1, 5, none⟩ (by have := b6.size; simp; omega) (fun e => hn2 e.symm)]
          exact cell_alloc_sl _ z5
        · rw [hgrow8.frozen_far ⟨w.heap.size + 1 + 1, c, none⟩ (by have := b6.size; simp; omega) (fun e => hn2 e.symm)]
          have hb : (w6.alloc (.cells #[.int .i64 t'.k, .int .i64 t'.d, .slice at6 nt6 ct6, .int .i64 t'.lo, .int .i64 t'.hi, .slice ak6 nk6 ck6] 27)).heap[w.heap.size + 1 + 1]? = wr.heap[w.heap.size + 1 + 1]? := by rw [Below.heap_alloc _ _ _ (by have := b6.size; omega), b6.block _ hszr]
          rw [World.frozen?_of_block (w := wr) hb]
          exact HM.out.frz c
        · exact minv_step hB2 HM.out hil b6 ok6 of6 er6 _ rfl hown8 hgrow8 (hat8.imp id fun e => by rw [e]; simp)
      obtain ⟨x, hx⟩ : ∃ x, x = t.ks[i] := ⟨_, rfl⟩
      rw [← hx] at q0 q1 q2 q3 q4 q5 okx hfx hsx hox hzx REST
      have kM : Calls Try.prog 20 #[.agg #[.int .i64 x.k, .int .i64 x.d, x.tv, .int .i64 x.lo, .int .i64 x.hi, x.kv], .bool true] wr.drew fun e w' => ∃ t' : Tr, e = .returned (.agg #[.int .i64 t'.k, .int .i64 t'.d, t'.tv, .int .i64 t'.lo, .int .i64 t'.hi, t'.kv]) ∧ t'.Ok w' ∧ t'.Off (fun k => k < B0 ∨ wr.heap.size ≤ k) ∧ t'.er = x.turn true ∧ Below wr.heap.size wr w' := by
        have hbd : Below wr.heap.size wr wr.drew := (Below.refl _ _).drew
        refine (HI.out x hzx true wr.drew (by show B0 ≤ wr.heap.size; have := HZW.out.2; omega) (okx.up hbd) hox hfx hsx).mono ?_
        rintro e w' ⟨t', h1, h2, h3, h4, h5⟩
        exact ⟨t', h1, h2, h3, h4, ⟨h5.os, h5.tape, h5.output, h5.size, h5.block⟩⟩
      obtain ⟨at5, nt5, ct5, ak5, nk5, ck5, g1, g2, -, -, -, -⟩ := okx.lens
      rw [g1] at q2
      rw [g2] at q5
      rw [g1, g2] at kM
      generalize x.k = xk at *
      generalize x.d = xd at *
      generalize x.lo = xl at *
      generalize x.hi = xh at *
      have h63 : i + 1 ≤ maxLen := by unfold maxLen; omega
      have hby80 : (i + 1) * 80 ≤ 140737488355328 := by omega
      have H63 : Hid _ := h63
      have H80 : Hid _ := hby80
      clear hrr hcell okx hfx hsx hox hzx yf yz yfz bW hx g1 g2 o0 o1 o2 o3 o4 hszr h63 hby80
      go_wp2_with fail
      go_region_law (first
          | (go_simp; go_at_call 20; refine kM.mono ?_; rintro e2 w6 ⟨t', rfl, ok6, of6, er6, b6⟩; obtain ⟨at6, nt6, ct6, ak6, nk6, ck6, j1, j2, -, -, -, -⟩ := ok6.lens; obtain ⟨z5, z5a, HOV, HVR, HV1, HS7, FIN⟩ := REST.out t' w6 at6 nt6 ct6 ak6 nk6 ck6 j1 j2 ok6 of6 er6 b6; rw [j1, j2]; clear ok6 of6 er6 b6)
          | (refine step_append_lies _ rfl (.tmp 37) (.tmp 45) 25 rfl (w.heap.size + 1 + 1 + 1) 27 i0 (.agg #[.int .i64 0, .int .i64 0, .slice none 0 0, .int .i64 0, .int .i64 0, .slice none 0 0]) 6 80 Try.underlying25 hi hy0 hy1 hy2 rfl (by decide) (.slice av nv cv) i (tvs l') rfl HOV _ 1 1 (tvs [t']) rfl rfl HVR HV1 (by decide) H63.out H80.out HS7 (w6.heap.size + 1) (by simp) ?_; intro g8 c8 w8 hown8 hgrow8 hat8 hlt8; obtain ⟨z8, zf8, FIN8⟩ := FIN.out g8 c8 w8 hown8 hgrow8 hat8; clear hown8 hgrow8 hat8 hlt8))
      all_goals
        go_wp2_with fail
        go_roundg (nk - (i + 1))
        case measure => omega
        case rel => exact ⟨i + 1, l' ++ [t'], _, by go_num, by omega, Nat.le_refl _, FIN8⟩
    · have hltz : ¬ (i : Int) < (nk : Int) := by omega
      have ok' : (Tr.mk 3 0 sn [] 0 0 (.slice av nv cv) l').Ok wr := .mk (Rds.nil wr) (by
        have := RdsK.of_own HM.out.own
        rw [← HM.out.len] at this
        exact this) fun t ht => (HM.out.ok t ht).1
      have of' : (Tr.mk 3 0 sn [] 0 0 (.slice av nv cv) l').Off (fun k => k < B0 ∨ W.heap.size ≤ k) := .mk (vout_nil _) (fun a n c e h0 => by
        cases e
        have := (ownBlock_in HM.out.own (j := a.block) (by simp [Value.ownBlock])).1
        exact .inr (by rw [HZW.out.1]; omega)) fun t ht => (HM.out.ok t ht).2.mono fun k hk => hk.1.imp id fun h => by rw [HZW.out.1]; omega
      have er' : (Tr.mk 3 0 sn [] 0 0 (.slice av nv cv) l').er = t.turn true := by
        rw [HT.out, Tr.er_eq]
        show Tr.mk _ _ _ _ _ _ _ (l'.map Tr.er) = _
        rw [HM.out.er, List.take_of_length_le (by have := HNK.out; omega)]; rfl
      have b6 := bW
      have b6x := b6
      have hF : (Tr.mk 3 0 sn [] 0 0 (.slice av nv cv) l').Ok ((((((wr.setCell ⟨w.heap.size + 1, 0, none⟩ (.int .i64 3)).setCell ⟨w.heap.size + 1, 1, none⟩ (.int .i64 0)).setCell ⟨w.heap.size + 1, 2, none⟩ (.slice none 0 0)).setCell ⟨w.heap.size + 1, 3, none⟩ (.int .i64 0)).setCell ⟨w.heap.size + 1, 4, none⟩ (.int .i64 0)).setCell ⟨w.heap.size + 1, 5, none⟩ (.slice av nv cv)) ∧ (Tr.mk 3 0 sn [] 0 0 (.slice av nv cv) l').Off (fun k => k < B0 ∨ w.heap.size ≤ k) ∧ (Tr.mk 3 0 sn [] 0 0 (.slice av nv cv) l').er = t.turn true ∧ Below w.heap.size w ((((((wr.setCell ⟨w.heap.size + 1, 0, none⟩ (.int .i64 3)).setCell ⟨w.heap.size + 1, 1, none⟩ (.int .i64 0)).setCell ⟨w.heap.size + 1, 2, none⟩ (.slice none 0 0)).setCell ⟨w.heap.size + 1, 3, none⟩ (.int .i64 0)).setCell ⟨w.heap.size + 1, 4, none⟩ (.int .i64 0)).setCell ⟨w.heap.size + 1, 5, none⟩ (.slice av nv cv)) :=
        ⟨ok'.keepP (P := fun k => k < B0 ∨ W.heap.size ≤ k) (fun k hk _ => put6_off (by have := HZW.out; rcases hk with hk | hk <;> omega) _ _ _ _ _ _ _ _ _ _ _ _) of', of'.mono (fun k hk => hk.imp id fun hk => by have := HZW.out; omega), er', below6 (HG.out.below.trans (b6.mono HG.out.below.size)) (Nat.le_succ _) _ _ _ _ _ _ _ _ _ _ _ _⟩
      have HF : Hid _ := hF
      obtain ⟨-, y, hfz⟩ := HBX.out wr b6x
      have y0 := y 0 _ rfl
      have y1 := y 1 _ rfl
      have y2 := y 2 _ rfl
      have y3 := y 3 _ rfl
      have y4 := y 4 _ rfl
      have y5 := y 5 _ rfl
      clear hF y
      clear b6 b6x ok' of' er' bW yf yz yfz
      go_wp2_with fail
      (try simp only [Exit.inBlock, Exit.then])
      refine bodyPost_ret (by simp [results, Try.results20, go_sem, y0, y1, y2, y3, y4, y5]; try rfl) rfl ?_
      exact ⟨(Tr.mk 3 0 sn [] 0 0 (.slice av nv cv) l'), by simp only [Tr.k, Tr.d, Tr.tv, Tr.lo, Tr.hi, Tr.kv, sn], HF.out⟩
end Go.Proofs.Ytlfkhinmncbkcaa
