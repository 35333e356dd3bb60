/- The contract of awake. -/
import Derived.Test.YtlfkhinmncbkcaaHld
namespace Go.Proofs.Ytlfkhinmncbkcaa
open Go.RowKit Go.Sort

theorem al_new (w : World) (cs : Array Value) (t : TypeId) {B o : Nat} {v : Value} (hB : B = w.heap.size) (h : cs[o]? = some v) : (w.alloc (.cells cs t)).cell? ⟨B, o, none⟩ = some v := by
  subst hB
  simpa using h
theorem rds_a {w : World} {B : Nat} (h : w.cell? ⟨B, 0, none⟩ = some (.string ⟨#[97]⟩)) : Rds w (.slice (some ⟨B, 0, none⟩) 1 1) (sv [[97]]) := by
  refine ⟨some ⟨B, 0, none⟩, 1, rfl, Nat.le_refl _, by decide, (fun h => by cases h), ?_⟩
  rintro ad ⟨rfl⟩ j u hj
  rw [Addr.add_lit, Nat.zero_add]
  have hj0 : j = 0 := by
    have := (List.getElem?_eq_some_iff.1 hj).1
    simp [sv] at this
    exact this
  subst hj0
  rw [h]
  simpa [sv] using hj
theorem rdsT_of {w : World} {b n : Nat} {l : List Tr} (hl : l.length = n) (hn : n ≤ 1000) (hc : ∀ j u, (tvs l)[j]? = some u → w.cell? ⟨b, j, none⟩ = some u) (ok : ∀ t ∈ l, t.Ok w) : RdsT w (.slice (some ⟨b, 0, none⟩) n n) l := by
  refine ⟨⟨some ⟨b, 0, none⟩, n, by rw [hl], by rw [tvs_length], by omega, by unfold maxLen; omega, (fun h => by cases h), ?_⟩, ok⟩
  rintro ad ⟨rfl⟩ j u hj
  rw [Addr.add_lit, Nat.zero_add]
  exact hc j u hj

set_option maxRecDepth 100000 in
set_option maxHeartbeats 8000000 in
theorem awake_any (w : World) : Calls Try.prog 9 #[] w fun e w' => e = .returned (.bool true) ∧ Below w.heap.size w w' := by
  obtain ⟨B, hB⟩ : ∃ B, B = w.heap.size := ⟨_, rfl⟩
  obtain ⟨W0, hW0⟩ : ∃ W, W = w.alloc (.cells #[.string ⟨#[97]⟩] 9) := ⟨_, rfl⟩
  obtain ⟨W1, hW1⟩ : ∃ W, W = W0.alloc (.cells #[.int .i64 5, .int .i64 0, .slice (some ⟨w.heap.size, 0, none⟩) 1 1, .int .i64 0, .int .i64 0, .slice none 0 0] 27) := ⟨_, rfl⟩
  obtain ⟨W2, hW2⟩ : ∃ W, W = W1.alloc (.cells #[.int .i64 1, .int .i64 0, .slice none 0 0, .int .i64 0, .int .i64 0, .slice none 0 0] 27) := ⟨_, rfl⟩
  obtain ⟨W3, hW3⟩ : ∃ W, W = W2.alloc (.cells #[.int .i64 1, .int .i64 0, .slice none 0 0, .int .i64 0, .int .i64 0, .slice none 0 0] 27) := ⟨_, rfl⟩
  obtain ⟨W4, hW4⟩ : ∃ W, W = W3.alloc (.cells #[.int .i64 5, .int .i64 0, .slice (some ⟨w.heap.size, 0, none⟩) 1 1, .int .i64 0, .int .i64 0, .slice none 0 0, .int .i64 2, .int .i64 0, .slice none 0 0, .int .i64 0, .int .i64 0, .slice (some ⟨w.heap.size + 1 + 1 + 1, 0, none⟩) 1 1] 27) := ⟨_, rfl⟩
  obtain ⟨W, hW5⟩ : ∃ W, W = W4.alloc (.cells #[.int .i64 4, .int .i64 0, .slice none 0 0, .int .i64 0, .int .i64 0, .slice (some ⟨w.heap.size + 1 + 1 + 1 + 1, 0, none⟩) 2 2] 27) := ⟨_, rfl⟩
  have s0 : W0.heap.size = w.heap.size + 1 := by rw [hW0]; simp
  have s1 : W1.heap.size = w.heap.size + 1 + 1 := by rw [hW1]; simp [s0]
  have s2 : W2.heap.size = w.heap.size + 1 + 1 + 1 := by rw [hW2]; simp [s1]
  have s3 : W3.heap.size = w.heap.size + 1 + 1 + 1 + 1 := by rw [hW3]; simp [s2]
  have s4 : W4.heap.size = w.heap.size + 1 + 1 + 1 + 1 + 1 := by rw [hW4]; simp [s3]
  have sW : W.heap.size = w.heap.size + 1 + 1 + 1 + 1 + 1 + 1 := by rw [hW5]; simp [s4]
  have gW : Grows w W := by
    rw [hW5, hW4, hW3, hW2, hW1, hW0]
    exact (((((Grows.alloc _ _).trans (Grows.alloc _ _)).trans (Grows.alloc _ _)).trans (Grows.alloc _ _)).trans (Grows.alloc _ _)).trans (Grows.alloc _ _)
  have c0 : W.cell? ⟨w.heap.size, 0, none⟩ = some (.string ⟨#[97]⟩) := by
    rw [hW5, hW4, hW3, hW2, hW1, hW0]
    exact cell_alloc_sl _ (cell_alloc_sl _ (cell_alloc_sl _ (cell_alloc_sl _ (cell_alloc_sl _ (al_new _ _ _ rfl rfl)))))
  have c3 : ∀ j u, (tvs [aA])[j]? = some u → W.cell? ⟨w.heap.size + 1 + 1 + 1, j, none⟩ = some u := fun j u hj => by
    rw [hW5, hW4, hW3]
    exact cell_alloc_sl _ (cell_alloc_sl _ (al_new _ _ _ s2.symm (by simpa [tvs, Tr.cells, aA, Tr.k, Tr.d, Tr.tv, Tr.lo, Tr.hi, Tr.kv] using hj)))
  have c4 : ∀ j u, (tvs [aI w.heap.size, aN (w.heap.size + 1 + 1 + 1)])[j]? = some u → W.cell? ⟨w.heap.size + 1 + 1 + 1 + 1, j, none⟩ = some u := fun j u hj => by
    rw [hW5, hW4]
    exact cell_alloc_sl _ (al_new _ _ _ s3.symm (by simpa [tvs, Tr.cells, aA, aI, aN, Tr.k, Tr.d, Tr.tv, Tr.lo, Tr.hi, Tr.kv] using hj))
  have c5 : ∀ c u, (#[Value.int .i64 4, .int .i64 0, .slice none 0 0, .int .i64 0, .int .i64 0, .slice (some ⟨w.heap.size + 1 + 1 + 1 + 1, 0, none⟩) 2 2])[c]? = some u → W.cell? ⟨w.heap.size + 1 + 1 + 1 + 1 + 1, c, none⟩ = some u := fun c u hc => by
    rw [hW5]
    exact al_new _ _ _ s4.symm hc
  have oA : aA.Ok W := .mk (Rds.nil W) (RdsK.nil 6 W) fun _ h => by cases h
  have oI : (aI w.heap.size).Ok W := .mk (rds_a c0) (RdsK.nil 6 W) fun _ h => by cases h
  have rN : RdsT W (.slice (some ⟨w.heap.size + 1 + 1 + 1, 0, none⟩) 1 1) [aA] := rdsT_of rfl (by omega) c3 fun t ht => by
    simp only [List.mem_singleton] at ht
    subst ht
    exact oA
  have oN : (aN (w.heap.size + 1 + 1 + 1)).Ok W := .mk (Rds.nil W) rN.r rN.ok
  have rF : RdsT W (.slice (some ⟨w.heap.size + 1 + 1 + 1 + 1, 0, none⟩) 2 2) [aI w.heap.size, aN (w.heap.size + 1 + 1 + 1)] := rdsT_of rfl (by omega) c4 fun t ht => by
    simp only [List.mem_cons, List.not_mem_nil, or_false] at ht
    rcases ht with rfl | rfl
    · exact oI
    · exact oN
  have oF : (aF w.heap.size (w.heap.size + 1 + 1 + 1) (w.heap.size + 1 + 1 + 1 + 1)).Ok W := .mk (Rds.nil W) rF.r rF.ok
  have lA : aA.Lim := .mk (by show 0 * 16 ≤ _; omega) fun _ h => by cases h
  have lF : (aF w.heap.size (w.heap.size + 1 + 1 + 1) (w.heap.size + 1 + 1 + 1 + 1)).Lim := .mk (by show 0 * 16 ≤ _; omega) fun t ht => by
    have : t = aI w.heap.size ∨ t = aN (w.heap.size + 1 + 1 + 1) := by simpa [aF, Tr.ks] using ht
    rcases this with rfl | rfl
    · exact .mk (by show 1 * 16 ≤ _; omega) fun _ h => by cases h
    · refine .mk (by show 0 * 16 ≤ _; omega) fun c hc => ?_
      have : c = aA := by simpa [aN, Tr.ks] using hc
      rw [this]; exact lA
  have kN := not_any _ W oF lF (by rw [aF_sz]; omega)
  rw [aF_turn] at kN
  simp only [show (aF w.heap.size (w.heap.size + 1 + 1 + 1) (w.heap.size + 1 + 1 + 1 + 1)).k = 4 from rfl, show (aF w.heap.size (w.heap.size + 1 + 1 + 1) (w.heap.size + 1 + 1 + 1 + 1)).d = 0 from rfl, show (aF w.heap.size (w.heap.size + 1 + 1 + 1) (w.heap.size + 1 + 1 + 1 + 1)).tv = .slice none 0 0 from rfl, show (aF w.heap.size (w.heap.size + 1 + 1 + 1) (w.heap.size + 1 + 1 + 1 + 1)).lo = 0 from rfl, show (aF w.heap.size (w.heap.size + 1 + 1 + 1) (w.heap.size + 1 + 1 + 1 + 1)).hi = 0 from rfl, show (aF w.heap.size (w.heap.size + 1 + 1 + 1) (w.heap.size + 1 + 1 + 1 + 1)).kv = .slice (some ⟨w.heap.size + 1 + 1 + 1 + 1, 0, none⟩) 2 2 from rfl] at kN
  have hW : W = (((((w.alloc (.cells #[.string ⟨#[97]⟩] 9)).alloc (.cells #[.int .i64 5, .int .i64 0, .slice (some ⟨w.heap.size, 0, none⟩) 1 1, .int .i64 0, .int .i64 0, .slice none 0 0] 27)).alloc (.cells #[.int .i64 1, .int .i64 0, .slice none 0 0, .int .i64 0, .int .i64 0, .slice none 0 0] 27)).alloc (.cells #[.int .i64 1, .int .i64 0, .slice none 0 0, .int .i64 0, .int .i64 0, .slice none 0 0] 27)).alloc (.cells #[.int .i64 5, .int .i64 0, .slice (some ⟨w.heap.size, 0, none⟩) 1 1, .int .i64 0, .int .i64 0, .slice none 0 0, .int .i64 2, .int .i64 0, .slice none 0 0, .int .i64 0, .int .i64 0, .slice (some ⟨w.heap.size + 1 + 1 + 1, 0, none⟩) 1 1] 27)).alloc (.cells #[.int .i64 4, .int .i64 0, .slice none 0 0, .int .i64 0, .int .i64 0, .slice (some ⟨w.heap.size + 1 + 1 + 1 + 1, 0, none⟩) 2 2] 27) := by rw [hW5, hW4, hW3, hW2, hW1, hW0]
  have HC5 : Aside _ := c5
  have HO : Hid ((aF w.heap.size (w.heap.size + 1 + 1 + 1) (w.heap.size + 1 + 1 + 1 + 1)).Ok W) := oF
  have HG : Hid (Grows w W) := gW
  have HSW : Hid (W.heap.size = w.heap.size + 1 + 1 + 1 + 1 + 1 + 1) := sW
  have HW : Hid _ := hW
  rw [hW] at kN
  clear hB hW0 hW1 hW2 hW3 hW4 hW5 s0 s1 s2 s3 s4 sW gW c0 c3 c4 c5 oA oI rN oN rF oF lA lF hW
  go_enter Try.func9, Try.ntmps9
  go_wp2_with fail
  refine kN.mono ?_
  rintro e w1 ⟨t', rfl, ok', fr', er', b1⟩
  rw [← HW.out] at b1
  obtain ⟨hk3, p, q, hks, hq1⟩ := aG_of er'
  have ht' : t'.holdG (aX (w1.heap.size + 1)) = false := by rw [← er_holdG, er', aG_hold]
  obtain ⟨at', nt, ct, ak, nk, ck, e1, e2, hnk, hc1, hc2, -⟩ := ok'.lens
  unfold maxLen at hc2
  rw [hks] at hnk
  simp only [List.length_cons, List.length_nil, Nat.zero_add, Nat.reduceAdd] at hnk
  subst hnk
  have hkk := ok'.kids'
  rw [e2] at hkk
  obtain ⟨bk, off, rfl, hcell⟩ := hkk.at (by rw [hks]; simp)
  have q0 := (hcell 1 (by rw [hks]; simp)).1
  have hq : (t'.ks[1]'(by rw [hks]; simp)).k = 1 := by simp only [hks, List.getElem_cons_succ, List.getElem_cons_zero]; exact hq1
  rw [hq, Nat.one_mul] at q0
  obtain ⟨V0, hV0⟩ : ∃ V, V = w1.alloc (.cells #[.int .i64 t'.k, .int .i64 t'.d, t'.tv, .int .i64 t'.lo, .int .i64 t'.hi, t'.kv] 27) := ⟨_, rfl⟩
  obtain ⟨V1, hV1⟩ : ∃ V, V = V0.alloc (.cells #[.string ⟨#[97]⟩] 9) := ⟨_, rfl⟩
  obtain ⟨V2, hV2⟩ : ∃ V, V = V1.alloc (.cells #[.int .i64 0, .slice (some ⟨w1.heap.size + 1, 0, none⟩) 1 1, .slice none 0 0] 35) := ⟨_, rfl⟩
  obtain ⟨V, hV3⟩ : ∃ V, V = V2.alloc (.cells #[.int .i64 1, .int .i64 0] 23) := ⟨_, rfl⟩
  have s0 : V0.heap.size = w1.heap.size + 1 := by rw [hV0]; simp
  have s1 : V1.heap.size = w1.heap.size + 1 + 1 := by rw [hV1]; simp [s0]
  have s2 : V2.heap.size = w1.heap.size + 1 + 1 + 1 := by rw [hV2]; simp [s1]
  have sV : V.heap.size = w1.heap.size + 1 + 1 + 1 + 1 := by rw [hV3]; simp [s2]
  have gV : Grows w1 V := by
    rw [hV3, hV2, hV1, hV0]
    exact (((Grows.alloc _ _).trans (Grows.alloc _ _)).trans (Grows.alloc _ _)).trans (Grows.alloc _ _)
  have d0 : ∀ c u, (#[Value.int .i64 t'.k, .int .i64 t'.d, t'.tv, .int .i64 t'.lo, .int .i64 t'.hi, t'.kv])[c]? = some u → V.cell? ⟨w1.heap.size, c, none⟩ = some u := fun c u hc => by
    rw [hV3, hV2, hV1, hV0]
    exact cell_alloc_sl _ (cell_alloc_sl _ (cell_alloc_sl _ (al_new _ _ _ rfl hc)))
  have d1 : V.cell? ⟨w1.heap.size + 1, 0, none⟩ = some (.string ⟨#[97]⟩) := by
    rw [hV3, hV2, hV1]
    exact cell_alloc_sl _ (cell_alloc_sl _ (al_new _ _ _ s0.symm rfl))
  have d2 : ∀ c u, (#[Value.int .i64 0, .slice (some ⟨w1.heap.size + 1, 0, none⟩) 1 1, .slice none 0 0])[c]? = some u → V.cell? ⟨w1.heap.size + 1 + 1, c, none⟩ = some u := fun c u hc => by
    rw [hV3, hV2]
    exact cell_alloc_sl _ (al_new _ _ _ s1.symm hc)
  have d3 : ∀ c u, (#[Value.int .i64 1, .int .i64 0])[c]? = some u → V.cell? ⟨w1.heap.size + 1 + 1 + 1, c, none⟩ = some u := fun c u hc => by
    rw [hV3]
    exact al_new _ _ _ s2.symm hc
  have bWV : Below W.heap.size W V := b1.trans (gV.below.mono b1.size)
  have oX : (aX (w1.heap.size + 1)).Ok V := ⟨rds_a d1, Rds.nil V⟩
  have hbox : ∀ w5, Below V.heap.size V w5 → (∀ c u, (#[Value.int .i64 4, .int .i64 0, .slice none 0 0, .int .i64 0, .int .i64 0, .slice (some ⟨w.heap.size + 1 + 1 + 1 + 1, 0, none⟩) 2 2])[c]? = some u → w5.cell? ⟨w.heap.size + 1 + 1 + 1 + 1 + 1, c, none⟩ = some u) ∧ (∀ c u, (#[Value.int .i64 t'.k, .int .i64 t'.d, t'.tv, .int .i64 t'.lo, .int .i64 t'.hi, t'.kv])[c]? = some u → w5.cell? ⟨w1.heap.size, c, none⟩ = some u) ∧ (∀ c u, (#[Value.int .i64 0, .slice (some ⟨w1.heap.size + 1, 0, none⟩) 1 1, .slice none 0 0])[c]? = some u → w5.cell? ⟨w1.heap.size + 1 + 1, c, none⟩ = some u) ∧ ∀ c u, (#[Value.int .i64 1, .int .i64 0])[c]? = some u → w5.cell? ⟨w1.heap.size + 1 + 1 + 1, c, none⟩ = some u := fun w5 h5 => by
    have up : ∀ {a : Addr} {v : Value}, V.cell? a = some v → w5.cell? a = some v := fun {a v} h => by rw [h5.cell (World.block_lt_of_cell? _ _ h)]; exact h
    have up2 : ∀ {a : Addr} {v : Value}, W.cell? a = some v → V.cell? a = some v := fun {a v} h => by rw [bWV.cell (World.block_lt_of_cell? _ _ h)]; exact h
    exact ⟨fun c u hc => up (up2 (HC5.out c u hc)), fun c u hc => up (d0 c u hc), fun c u hc => up (d2 c u hc), fun c u hc => up (d3 c u hc)⟩
  have hV : V = (((w1.alloc (.cells #[.int .i64 t'.k, .int .i64 t'.d, t'.tv, .int .i64 t'.lo, .int .i64 t'.hi, t'.kv] 27)).alloc (.cells #[.string ⟨#[97]⟩] 9)).alloc (.cells #[.int .i64 0, .slice (some ⟨w1.heap.size + 1, 0, none⟩) 1 1, .slice none 0 0] 35)).alloc (.cells #[.int .i64 1, .int .i64 0] 23) := by rw [hV3, hV2, hV1, hV0]
  rw [e1, e2] at hV hbox
  have HBX : Aside _ := hbox
  have HV : Hid _ := hV
  have HOO : Hid ((aF w.heap.size (w.heap.size + 1 + 1 + 1) (w.heap.size + 1 + 1 + 1 + 1)).Ok V ∧ t'.Ok V ∧ (aX (w1.heap.size + 1)).Ok V) := ⟨HO.out.up bWV, ok'.up gV.below, oX⟩
  have HB : Hid (Below w.heap.size w V) := HG.out.below.trans (bWV.mono HG.out.below.size)
  have HQ : Aside (∀ w5, Below V.heap.size V w5 → w5.cell? ⟨bk, off + 6, none⟩ = some (.int .i64 1)) := fun w5 h5 => by
    have hv : V.cell? ⟨bk, off + 6, none⟩ = some (.int .i64 1) := by rw [gV.below.cell (World.block_lt_of_cell? _ _ q0)]; exact q0
    rw [h5.cell (World.block_lt_of_cell? _ _ hv)]; exact hv
  have HT' : Hid (t'.holdG (aX (w1.heap.size + 1)) = false) := ht'
  have HE : Hid (t'.tv = .slice at' nt ct ∧ t'.kv = .slice (some ⟨bk, off, none⟩) 2 ck) := ⟨e1, e2⟩
  have HGV1 : Hid (Grows V V) := Grows.refl V
  have k2 := check_any V 1 0 _ HOO.out.1
  rw [aF_may] at k2
  simp only [show (aF w.heap.size (w.heap.size + 1 + 1 + 1) (w.heap.size + 1 + 1 + 1 + 1)).k = 4 from rfl, show (aF w.heap.size (w.heap.size + 1 + 1 + 1) (w.heap.size + 1 + 1 + 1 + 1)).d = 0 from rfl, show (aF w.heap.size (w.heap.size + 1 + 1 + 1) (w.heap.size + 1 + 1 + 1 + 1)).tv = .slice none 0 0 from rfl, show (aF w.heap.size (w.heap.size + 1 + 1 + 1) (w.heap.size + 1 + 1 + 1 + 1)).lo = 0 from rfl, show (aF w.heap.size (w.heap.size + 1 + 1 + 1) (w.heap.size + 1 + 1 + 1 + 1)).hi = 0 from rfl, show (aF w.heap.size (w.heap.size + 1 + 1 + 1) (w.heap.size + 1 + 1 + 1 + 1)).kv = .slice (some ⟨w.heap.size + 1 + 1 + 1 + 1, 0, none⟩) 2 2 from rfl] at k2
  rw [hV] at k2
  have HK3 : Hid (t'.k = 3) := hk3
  rw [e1, e2]
  obtain ⟨x3, x4, x5, x6⟩ := HBX.out V (Below.refl _ _)
  have f0 := x3 0 _ rfl
  have f1 := x3 1 _ rfl
  have f2 := x3 2 _ rfl
  have f3 := x3 3 _ rfl
  have f4 := x3 4 _ rfl
  have f5 := x3 5 _ rfl
  have n0 := x4 0 _ rfl
  have n1 := x4 1 _ rfl
  have n2 := x4 2 _ rfl
  have n3 := x4 3 _ rfl
  have n4 := x4 4 _ rfl
  have n5 := x4 5 _ rfl
  have x0 := x5 0 _ rfl
  have x1 := x5 1 _ rfl
  have x2 := x5 2 _ rfl
  have m0 := x6 0 _ rfl
  have m1 := x6 1 _ rfl
  clear x3 x4 x5 x6
  rw [hV] at f0 f1 f2 f3 f4 f5 n0 n1 n2 n3 n4 n5 x0 x1 x2 m0 m1
  clear kN hV0 hV1 hV2 hV3 s0 s1 s2 sV gV d0 d1 d2 d3 bWV oX hbox hV hkk hcell q0 hq hq1 er' ok' fr' b1 ht' hks e1 e2 hk3
  go_wp2_with fail
  rw [← HV.out] at k2 ⊢
  refine k2.mono ?_
  rintro e w2 ⟨rfl, g2⟩
  have gV2 := HGV1.out.trans g2
  have HGV2 : Hid (Grows V w2) := gV2
  clear k2 g2 f0 f1 f2 f3 f4 f5 n0 n1 n2 n3 n4 n5 x0 x1 x2 m0 m1
  have k3 := check_any w2 0 0 _ (HOO.out.1.up gV2.below)
  rw [aF_not] at k3
  simp only [show (aF w.heap.size (w.heap.size + 1 + 1 + 1) (w.heap.size + 1 + 1 + 1 + 1)).k = 4 from rfl, show (aF w.heap.size (w.heap.size + 1 + 1 + 1) (w.heap.size + 1 + 1 + 1 + 1)).d = 0 from rfl, show (aF w.heap.size (w.heap.size + 1 + 1 + 1) (w.heap.size + 1 + 1 + 1 + 1)).tv = .slice none 0 0 from rfl, show (aF w.heap.size (w.heap.size + 1 + 1 + 1) (w.heap.size + 1 + 1 + 1 + 1)).lo = 0 from rfl, show (aF w.heap.size (w.heap.size + 1 + 1 + 1) (w.heap.size + 1 + 1 + 1 + 1)).hi = 0 from rfl, show (aF w.heap.size (w.heap.size + 1 + 1 + 1) (w.heap.size + 1 + 1 + 1 + 1)).kv = .slice (some ⟨w.heap.size + 1 + 1 + 1 + 1, 0, none⟩) 2 2 from rfl] at k3
  obtain ⟨x3, x4, x5, x6⟩ := HBX.out w2 gV2.below
  have f0 := x3 0 _ rfl
  have f1 := x3 1 _ rfl
  have f2 := x3 2 _ rfl
  have f3 := x3 3 _ rfl
  have f4 := x3 4 _ rfl
  have f5 := x3 5 _ rfl
  have n0 := x4 0 _ rfl
  have n1 := x4 1 _ rfl
  have n2 := x4 2 _ rfl
  have n3 := x4 3 _ rfl
  have n4 := x4 4 _ rfl
  have n5 := x4 5 _ rfl
  have x0 := x5 0 _ rfl
  have x1 := x5 1 _ rfl
  have x2 := x5 2 _ rfl
  have m0 := x6 0 _ rfl
  have m1 := x6 1 _ rfl
  clear x3 x4 x5 x6
  go_wp2_with fail
  refine k3.mono ?_
  rintro e w3 ⟨rfl, g3⟩
  have gV3 := HGV2.out.trans g3
  have HGV3 : Hid (Grows V w3) := gV3
  clear k3 g3 f0 f1 f2 f3 f4 f5 n0 n1 n2 n3 n4 n5 x0 x1 x2 m0 m1
  have k4 := Holds_any w3 _ _ (HOO.out.1.up gV3.below) (HOO.out.2.2.up gV3.below)
  rw [aF_hold] at k4
  simp only [show (aF w.heap.size (w.heap.size + 1 + 1 + 1) (w.heap.size + 1 + 1 + 1 + 1)).k = 4 from rfl, show (aF w.heap.size (w.heap.size + 1 + 1 + 1) (w.heap.size + 1 + 1 + 1 + 1)).d = 0 from rfl, show (aF w.heap.size (w.heap.size + 1 + 1 + 1) (w.heap.size + 1 + 1 + 1 + 1)).tv = .slice none 0 0 from rfl, show (aF w.heap.size (w.heap.size + 1 + 1 + 1) (w.heap.size + 1 + 1 + 1 + 1)).lo = 0 from rfl, show (aF w.heap.size (w.heap.size + 1 + 1 + 1) (w.heap.size + 1 + 1 + 1 + 1)).hi = 0 from rfl, show (aF w.heap.size (w.heap.size + 1 + 1 + 1) (w.heap.size + 1 + 1 + 1 + 1)).kv = .slice (some ⟨w.heap.size + 1 + 1 + 1 + 1, 0, none⟩) 2 2 from rfl, show (aX (w1.heap.size + 1)).t = 0 from rfl, show (aX (w1.heap.size + 1)).dv = .slice (some ⟨w1.heap.size + 1, 0, none⟩) 1 1 from rfl, show (aX (w1.heap.size + 1)).mv = .slice none 0 0 from rfl] at k4
  obtain ⟨x3, x4, x5, x6⟩ := HBX.out w3 gV3.below
  have f0 := x3 0 _ rfl
  have f1 := x3 1 _ rfl
  have f2 := x3 2 _ rfl
  have f3 := x3 3 _ rfl
  have f4 := x3 4 _ rfl
  have f5 := x3 5 _ rfl
  have n0 := x4 0 _ rfl
  have n1 := x4 1 _ rfl
  have n2 := x4 2 _ rfl
  have n3 := x4 3 _ rfl
  have n4 := x4 4 _ rfl
  have n5 := x4 5 _ rfl
  have x0 := x5 0 _ rfl
  have x1 := x5 1 _ rfl
  have x2 := x5 2 _ rfl
  have m0 := x6 0 _ rfl
  have m1 := x6 1 _ rfl
  clear x3 x4 x5 x6
  go_wp2_with fail
  refine k4.mono ?_
  rintro e w4 ⟨rfl, g4⟩
  have gV4 := HGV3.out.trans g4
  have HGV4 : Hid (Grows V w4) := gV4
  clear k4 g4 f0 f1 f2 f3 f4 f5 n0 n1 n2 n3 n4 n5 x0 x1 x2 m0 m1
  have k5 := Holds_any w4 _ _ (HOO.out.2.1.up gV4.below) (HOO.out.2.2.up gV4.below)
  rw [HT'.out, HE.out.1, HE.out.2] at k5
  simp only [show (aX (w1.heap.size + 1)).t = 0 from rfl, show (aX (w1.heap.size + 1)).dv = .slice (some ⟨w1.heap.size + 1, 0, none⟩) 1 1 from rfl, show (aX (w1.heap.size + 1)).mv = .slice none 0 0 from rfl] at k5
  obtain ⟨x3, x4, x5, x6⟩ := HBX.out w4 gV4.below
  have f0 := x3 0 _ rfl
  have f1 := x3 1 _ rfl
  have f2 := x3 2 _ rfl
  have f3 := x3 3 _ rfl
  have f4 := x3 4 _ rfl
  have f5 := x3 5 _ rfl
  have n0 := x4 0 _ rfl
  have n1 := x4 1 _ rfl
  have n2 := x4 2 _ rfl
  have n3 := x4 3 _ rfl
  have n4 := x4 4 _ rfl
  have n5 := x4 5 _ rfl
  have x0 := x5 0 _ rfl
  have x1 := x5 1 _ rfl
  have x2 := x5 2 _ rfl
  have m0 := x6 0 _ rfl
  have m1 := x6 1 _ rfl
  clear x3 x4 x5 x6
  go_wp2_with fail
  refine k5.mono ?_
  rintro e w5 ⟨rfl, g5⟩
  have gV5 := HGV4.out.trans g5
  have HGV5 : Hid (Grows V w5) := gV5
  clear k5 g5 f0 f1 f2 f3 f4 f5 n0 n1 n2 n3 n4 n5 x0 x1 x2 m0 m1
  have k6 := size_any w5 _ (HOO.out.1.up gV5.below)
  rw [aF_sz] at k6
  simp only [show (aF w.heap.size (w.heap.size + 1 + 1 + 1) (w.heap.size + 1 + 1 + 1 + 1)).k = 4 from rfl, show (aF w.heap.size (w.heap.size + 1 + 1 + 1) (w.heap.size + 1 + 1 + 1 + 1)).d = 0 from rfl, show (aF w.heap.size (w.heap.size + 1 + 1 + 1) (w.heap.size + 1 + 1 + 1 + 1)).tv = .slice none 0 0 from rfl, show (aF w.heap.size (w.heap.size + 1 + 1 + 1) (w.heap.size + 1 + 1 + 1 + 1)).lo = 0 from rfl, show (aF w.heap.size (w.heap.size + 1 + 1 + 1) (w.heap.size + 1 + 1 + 1 + 1)).hi = 0 from rfl, show (aF w.heap.size (w.heap.size + 1 + 1 + 1) (w.heap.size + 1 + 1 + 1 + 1)).kv = .slice (some ⟨w.heap.size + 1 + 1 + 1 + 1, 0, none⟩) 2 2 from rfl, show min 201 4 = 4 from rfl] at k6
  obtain ⟨x3, x4, x5, x6⟩ := HBX.out w5 gV5.below
  have f0 := x3 0 _ rfl
  have f1 := x3 1 _ rfl
  have f2 := x3 2 _ rfl
  have f3 := x3 3 _ rfl
  have f4 := x3 4 _ rfl
  have f5 := x3 5 _ rfl
  have n0 := x4 0 _ rfl
  have n1 := x4 1 _ rfl
  have n2 := x4 2 _ rfl
  have n3 := x4 3 _ rfl
  have n4 := x4 4 _ rfl
  have n5 := x4 5 _ rfl
  have x0 := x5 0 _ rfl
  have x1 := x5 1 _ rfl
  have x2 := x5 2 _ rfl
  have m0 := x6 0 _ rfl
  have m1 := x6 1 _ rfl
  clear x3 x4 x5 x6
  go_wp2_with fail
  refine k6.mono ?_
  rintro e w6 ⟨rfl, g6⟩
  have gV6 := HGV5.out.trans g6
  have HGV6 : Hid (Grows V w6) := gV6
  clear k6 g6 f0 f1 f2 f3 f4 f5 n0 n1 n2 n3 n4 n5 x0 x1 x2 m0 m1
  have q6 := HQ.out w6 gV6.below
  obtain ⟨x3, x4, x5, x6⟩ := HBX.out w6 gV6.below
  have f0 := x3 0 _ rfl
  have f1 := x3 1 _ rfl
  have f2 := x3 2 _ rfl
  have f3 := x3 3 _ rfl
  have f4 := x3 4 _ rfl
  have f5 := x3 5 _ rfl
  have n0 := x4 0 _ rfl
  have n1 := x4 1 _ rfl
  have n2 := x4 2 _ rfl
  have n3 := x4 3 _ rfl
  have n4 := x4 4 _ rfl
  have n5 := x4 5 _ rfl
  have x0 := x5 0 _ rfl
  have x1 := x5 1 _ rfl
  have x2 := x5 2 _ rfl
  have m0 := x6 0 _ rfl
  have m1 := x6 1 _ rfl
  clear x3 x4 x5 x6
  rw [HK3.out] at n0
  go_wp2_with fail
  go_ret
  exact ⟨rfl, HB.out.trans (gV6.below.mono HB.out.size)⟩
end Go.Proofs.Ytlfkhinmncbkcaa
