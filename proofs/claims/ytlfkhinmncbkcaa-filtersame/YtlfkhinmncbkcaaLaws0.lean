/- The walk of FilterLaws. -/
import Derived.Test.YtlfkhinmncbkcaaAwake
import Derived.Test.YtlfkhinmncbkcaaTurnM
import Derived.Test.YtlfkhinmncbkcaaDep
namespace Go.Proofs.Ytlfkhinmncbkcaa
open Go.RowKit Go.Sort

theorem cell_up {w w' : World} (h : Below w.heap.size w w') {a : Addr} {v : Value} (hc : w.cell? a = some v) : w'.cell? a = some v := by
  rw [h.cell (World.block_lt_of_cell? _ _ hc)]; exact hc
def pairT (k : Int) (B : Nat) (a b : Tr) : Tr := .mk k 0 sn [] 0 0 (.slice (some ⟨B, 0, none⟩) 2 2) [a, b]
def oneT (B : Nat) (a : Tr) : Tr := .mk 2 0 sn [] 0 0 (.slice (some ⟨B, 0, none⟩) 1 1) [a]
theorem pair_kids {k : Int} (h : k = 3 ∨ k = 4) (B : Nat) (a b : Tr) : (pairT k B a b).kids = [a, b] := and_kids (t := pairT k B a b) h
theorem one_kids (B : Nat) (a : Tr) : (oneT B a).kids = [a] := rfl
theorem pair_sz {k : Int} (h : k = 3 ∨ k = 4) (B : Nat) (a b : Tr) : (pairT k B a b).sz = 1 + (a.sz + b.sz) := by rw [Tr.sz_eq, pair_kids h]; simp [szL]
theorem one_sz (B : Nat) (a : Tr) : (oneT B a).sz = 1 + a.sz := by rw [Tr.sz_eq, one_kids, szL_one]
theorem pair_fit {k : Int} (h : k = 3 ∨ k = 4) (B : Nat) {D M : Int} {a b : Tr} (ha : a.fitA D M = true) (hb : b.fitA D M = true) : (pairT k B a b).fitA D M = true := by
  rw [Tr.fitA_eq, pair_kids h, Bool.and_eq_true, fitL_mem]
  refine ⟨?_, fun c hc => ?_⟩
  · unfold Tr.fit; rw [if_pos (.inr h)]
  · simp only [List.mem_cons, List.not_mem_nil, or_false] at hc
    rcases hc with rfl | rfl
    · exact ha
    · exact hb
theorem one_fit (B : Nat) {D M : Int} {a : Tr} (ha : a.fitA D M = true) : (oneT B a).fitA D M = true := by
  rw [Tr.fitA_eq, one_kids, fitL_one, ha]; rfl
theorem may_bad {D M : Int} {t : Tr} (h : t.may D M = false) (hf : t.fitA D M = true) : 200 < t.sz ∨ 20 < t.dp := by
  unfold Tr.may at h
  rw [hf] at h
  by_cases h1 : t.sz ≤ 200
  · by_cases h2 : t.dp ≤ 20
    · rw [decide_eq_true h1, decide_eq_true h2] at h; cases h
    · omega
  · omega
theorem may_good {D M : Int} {t : Tr} (h : t.may D M = true) : t.sz ≤ 200 ∧ t.dp ≤ 20 ∧ t.fitA D M = true := by
  unfold Tr.may at h
  simpa using h
theorem holdG_of {X : Fc} {t : Tr} (h : t.sz ≤ 400) : t.holdG X = t.hold X := by unfold Tr.holdG; rw [decide_eq_true h]; simp
theorem pair3_hold (B : Nat) (X : Fc) (a b : Tr) : (pairT 3 B a b).hold X = (a.hold X && b.hold X) := by
  rw [hold3 X (t := pairT 3 B a b) rfl]
  show (!anyB false [a.hold X, b.hold X]) = _
  cases a.hold X <;> cases b.hold X <;> rfl
theorem pair4_hold (B : Nat) (X : Fc) (a b : Tr) : (pairT 4 B a b).hold X = (a.hold X || b.hold X) := by
  rw [hold4 X (t := pairT 4 B a b) rfl]
  show anyB true [a.hold X, b.hold X] = _
  cases a.hold X <;> cases b.hold X <;> rfl
theorem one_hold (B : Nat) (X : Fc) (a : Tr) : (oneT B a).hold X = !a.hold X := hold2 X (t := oneT B a) rfl rfl
theorem six3 {Z : World} {B : Nat} {x0 x1 x2 x3 x4 x5 : Value} (h : ∀ c u, (#[x0, x1, x2, x3, x4, x5])[c]? = some u → Z.cell? ⟨B, c, none⟩ = some u) : Z.cell? ⟨B, 0, none⟩ = some x0 ∧ Z.cell? ⟨B, 1, none⟩ = some x1 ∧ Z.cell? ⟨B, 2, none⟩ = some x2 ∧ Z.cell? ⟨B, 3, none⟩ = some x3 ∧ Z.cell? ⟨B, 4, none⟩ = some x4 ∧ Z.cell? ⟨B, 5, none⟩ = some x5 := ⟨h 0 _ rfl, h 1 _ rfl, h 2 _ rfl, h 3 _ rfl, h 4 _ rfl, h 5 _ rfl⟩
theorem pair_lens (k : Int) (B : Nat) (a b : Tr) : (pairT k B a b).k = k ∧ (pairT k B a b).d = 0 ∧ (pairT k B a b).tv = .slice none 0 0 ∧ (pairT k B a b).lo = 0 ∧ (pairT k B a b).hi = 0 ∧ (pairT k B a b).kv = .slice (some ⟨B, 0, none⟩) 2 2 := ⟨rfl, rfl, rfl, rfl, rfl, rfl⟩
theorem one_lens (B : Nat) (a : Tr) : (oneT B a).k = 2 ∧ (oneT B a).d = 0 ∧ (oneT B a).tv = .slice none 0 0 ∧ (oneT B a).lo = 0 ∧ (oneT B a).hi = 0 ∧ (oneT B a).kv = .slice (some ⟨B, 0, none⟩) 1 1 := ⟨rfl, rfl, rfl, rfl, rfl, rfl⟩

set_option maxHeartbeats 16000000 in
theorem laws_walk (w : World) (a b : Tr) (X : Fc) (ha : a.Ok w) (_ : a.Lim) (hb : b.Ok w) (_ : b.Lim) (hX : X.Ok w) :
    Calls Try.prog 8 #[.agg #[.int .i64 a.k, .int .i64 a.d, a.tv, .int .i64 a.lo, .int .i64 a.hi, a.kv], .agg #[.int .i64 b.k, .int .i64 b.d, b.tv, .int .i64 b.lo, .int .i64 b.hi, b.kv], .agg #[.int .i64 X.t, X.dv, X.mv]] w fun e w' => e = .returned (.bool true) ∧ Below w.heap.size w w' := by
  obtain ⟨at', nt, ct, ak, nk, ck, e1, e2, -, -, -, -⟩ := ha.lens
  obtain ⟨bt', mt, dt, bk, mk, dk, f1, f2, -, -, -, -⟩ := hb.lens
  obtain ⟨ad, nd, cd, am, nm, cm, g1, g2, -⟩ := hX.lens
  obtain ⟨W0, hW0⟩ : ∃ W, W = w.alloc (.cells #[.int .i64 a.k, .int .i64 a.d, a.tv, .int .i64 a.lo, .int .i64 a.hi, a.kv] 27) := ⟨_, rfl⟩
  obtain ⟨W1, hW1⟩ : ∃ W, W = W0.alloc (.cells #[.int .i64 b.k, .int .i64 b.d, b.tv, .int .i64 b.lo, .int .i64 b.hi, b.kv] 27) := ⟨_, rfl⟩
  obtain ⟨W, hW2⟩ : ∃ W, W = W1.alloc (.cells #[.int .i64 X.t, X.dv, X.mv] 35) := ⟨_, rfl⟩
  have s0 : W0.heap.size = w.heap.size + 1 := by rw [hW0]; simp
  have s1 : W1.heap.size = w.heap.size + 1 + 1 := by rw [hW1]; simp [s0]
  have gW : Grows w W := by rw [hW2, hW1, hW0]; exact ((Grows.alloc _ _).trans (Grows.alloc _ _)).trans (Grows.alloc _ _)
  have ca : ∀ c u, #[Value.int .i64 a.k, .int .i64 a.d, a.tv, .int .i64 a.lo, .int .i64 a.hi, a.kv][c]? = some u → W.cell? ⟨w.heap.size, c, none⟩ = some u := fun c u hc => by
    rw [hW2, hW1, hW0]; exact cell_alloc_sl _ (cell_alloc_sl _ (al_new _ _ _ rfl hc))
  have cb : ∀ c u, #[Value.int .i64 b.k, .int .i64 b.d, b.tv, .int .i64 b.lo, .int .i64 b.hi, b.kv][c]? = some u → W.cell? ⟨w.heap.size + 1, c, none⟩ = some u := fun c u hc => by
    rw [hW2, hW1]; exact cell_alloc_sl _ (al_new _ _ _ s0.symm hc)
  have cx : ∀ c u, #[Value.int .i64 X.t, X.dv, X.mv][c]? = some u → W.cell? ⟨w.heap.size + 1 + 1, c, none⟩ = some u := fun c u hc => by
    rw [hW2]; exact al_new _ _ _ s1.symm hc
  have hW : W = ((w.alloc (.cells #[.int .i64 a.k, .int .i64 a.d, a.tv, .int .i64 a.lo, .int .i64 a.hi, a.kv] 27)).alloc (.cells #[.int .i64 b.k, .int .i64 b.d, b.tv, .int .i64 b.lo, .int .i64 b.hi, b.kv] 27)).alloc (.cells #[.int .i64 X.t, X.dv, X.mv] 35) := by rw [hW2, hW1, hW0]
  have kA := awake_any W
  rw [hW, e1, e2, f1, f2, g1, g2] at kA
  have HC : Aside _ := And.intro ca (And.intro cb cx)
  have HO : Hid (a.Ok W ∧ b.Ok W ∧ X.Ok W) := ⟨ha.up gW.below, hb.up gW.below, hX.up gW.below⟩
  have HEa : Hid (a.tv = .slice at' nt ct ∧ a.kv = .slice ak nk ck) := ⟨e1, e2⟩
  have HEb : Hid (b.tv = .slice bt' mt dt ∧ b.kv = .slice bk mk dk) := ⟨f1, f2⟩
  have HEx : Hid (X.dv = .slice ad nd cd ∧ X.mv = .slice am nm cm) := ⟨g1, g2⟩
  have HG : Hid (Grows w W) := gW
  have HW : Hid _ := hW
  rw [e1, e2, f1, f2, g1, g2] at HW ⊢
  clear ha hb hX hW0 hW1 hW2 s0 s1 gW ca cb cx hW e1 e2 f1 f2 g1 g2
  go_enter Try.func8, Try.ntmps8
  go_wp2_with fail
  refine kA.mono ?_
  rintro e V ⟨rfl, bV⟩
  rw [← HW.out] at bV
  clear kA
  have kS := schema_any V X (HO.out.2.2.up bV)
  have x := fun c u hc => cell_up bV (HC.out.2.2 c u hc)
  have x0 := x 0 _ rfl
  have x1 := x 1 _ rfl
  have x2 := x 2 _ rfl
  rw [HEx.out.1] at x1
  rw [HEx.out.2] at x2
  rw [HEx.out.1, HEx.out.2] at kS
  clear x
  go_wp2_with fail
  refine kS.mono ?_
  rintro e w1 ⟨rfl, g1⟩
  clear kS x0 x1 x2
  obtain ⟨V1, hV1⟩ : ∃ V, V = w1.alloc (.cells #[.int .i64 (X.ds.length : Int), .int .i64 (X.ms.length : Int)] 23) := ⟨_, rfl⟩
  have gV1 : Grows w1 V1 := by rw [hV1]; exact Grows.alloc _ _
  have bV1 : Below W.heap.size W V1 := (bV.trans (g1.below.mono bV.size)).trans (gV1.below.mono (Nat.le_trans bV.size g1.below.size))
  have ca := fun c u hc => cell_up bV1 (HC.out.1 c u hc)
  have cb := fun c u hc => cell_up bV1 (HC.out.2.1 c u hc)
  have cx := fun c u hc => cell_up bV1 (HC.out.2.2 c u hc)
  have cs : ∀ c u, #[Value.int .i64 (X.ds.length : Int), .int .i64 (X.ms.length : Int)][c]? = some u → V1.cell? ⟨w1.heap.size, c, none⟩ = some u := fun c u hc => by rw [hV1]; exact al_new _ _ _ rfl hc
  have HC1 : Aside _ := And.intro ca (And.intro cb (And.intro cx cs))
  have HO1 : Hid (a.Ok V1 ∧ b.Ok V1 ∧ X.Ok V1) := ⟨HO.out.1.up bV1, HO.out.2.1.up bV1, HO.out.2.2.up bV1⟩
  have HB1 : Hid (Below w.heap.size w V1) := HG.out.below.trans (bV1.mono HG.out.below.size)
  have HV1 : Hid _ := hV1
  have kC := check_any V1 X.ds.length X.ms.length a HO1.out.1
  rw [HEa.out.1, HEa.out.2, hV1] at kC
  have a0 := ca 0 _ rfl
  have a1 := ca 1 _ rfl
  have a2 := ca 2 _ rfl
  have a3 := ca 3 _ rfl
  have a4 := ca 4 _ rfl
  have a5 := ca 5 _ rfl
  rw [HEa.out.1] at a2
  rw [HEa.out.2] at a5
  have s0 := cs 0 _ rfl
  have s1 := cs 1 _ rfl
  rw [hV1] at a0 a1 a2 a3 a4 a5 s0 s1
  clear hV1 gV1 bV1 ca cb cx cs bV g1 HC HO HG HW
  cases hA : a.may X.ds.length X.ms.length with
  | false =>
    rw [hA, show errB false = 1 from rfl] at kC
    go_wp2_with fail
    refine kC.mono ?_
    rintro e w2 ⟨rfl, g2⟩
    rw [← HV1.out] at g2
    go_wp2_with fail
    go_ret
    exact ⟨rfl, HB1.out.trans (g2.below.mono HB1.out.size)⟩
  | true =>
    rw [hA, show errB true = 0 from rfl] at kC
    have HA : Hid _ := may_good hA
    go_wp2_with fail
    refine kC.mono ?_
    rintro e w2 ⟨rfl, g2⟩
    rw [← HV1.out] at g2
    clear kC a0 a1 a2 a3 a4 a5 s0 s1 hA
    have cb := fun c u hc => cell_up g2.below (HC1.out.2.1 c u hc)
    have cs := fun c u hc => cell_up g2.below (HC1.out.2.2.2 c u hc)
    have kC := check_any w2 X.ds.length X.ms.length b (HO1.out.2.1.up g2.below)
    rw [HEb.out.1, HEb.out.2] at kC
    have b0 := cb 0 _ rfl
    have b1 := cb 1 _ rfl
    have b2 := cb 2 _ rfl
    have b3 := cb 3 _ rfl
    have b4 := cb 4 _ rfl
    have b5 := cb 5 _ rfl
    rw [HEb.out.1] at b2
    rw [HEb.out.2] at b5
    have s0 := cs 0 _ rfl
    have s1 := cs 1 _ rfl
    have HG2 : Hid (Grows V1 w2) := g2
    clear cb cs g2
    cases hB : b.may X.ds.length X.ms.length with
    | false =>
      rw [hB, show errB false = 1 from rfl] at kC
      go_wp2_with fail
      refine kC.mono ?_
      rintro e w3 ⟨rfl, g3⟩
      have g3 := HG2.out.trans g3
      go_wp2_with fail
      go_ret
      exact ⟨rfl, HB1.out.trans (g3.below.mono HB1.out.size)⟩
    | true =>
      rw [hB, show errB true = 0 from rfl] at kC
      have HBm : Hid _ := may_good hB
      go_wp2_with fail
      refine kC.mono ?_
      rintro e w3 ⟨rfl, g3⟩
      have g3 := HG2.out.trans g3
      clear kC b0 b1 b2 b3 b4 b5 s0 s1 hB
      have ca := fun c u hc => cell_up g3.below (HC1.out.1 c u hc)
      have cx := fun c u hc => cell_up g3.below (HC1.out.2.2.1 c u hc)
      have kH := Holds_any w3 X a (HO1.out.1.up g3.below) (HO1.out.2.2.up g3.below)
      rw [HEa.out.1, HEa.out.2, HEx.out.1, HEx.out.2, holdG_of (by have := HA.out.1; omega)] at kH
      have a0 := ca 0 _ rfl
      have a1 := ca 1 _ rfl
      have a2 := ca 2 _ rfl
      have a3 := ca 3 _ rfl
      have a4 := ca 4 _ rfl
      have a5 := ca 5 _ rfl
      rw [HEa.out.1] at a2
      rw [HEa.out.2] at a5
      have x0 := cx 0 _ rfl
      have x1 := cx 1 _ rfl
      have x2 := cx 2 _ rfl
      rw [HEx.out.1] at x1
      rw [HEx.out.2] at x2
      have HG3 : Hid (Grows V1 w3) := g3
      obtain ⟨p, hp⟩ : ∃ p, p = a.hold X := ⟨_, rfl⟩
      rw [← hp] at kH
      have HP : Hid (p = a.hold X) := hp
      clear ca cx g3 hp
      go_wp2_with fail
      refine kH.mono ?_
      rintro e w4 ⟨rfl, g4⟩
      have g4 := HG3.out.trans g4
      clear kH a0 a1 a2 a3 a4 a5 x0 x1 x2
      have cb := fun c u hc => cell_up g4.below (HC1.out.2.1 c u hc)
      have cx := fun c u hc => cell_up g4.below (HC1.out.2.2.1 c u hc)
      have kH := Holds_any w4 X b (HO1.out.2.1.up g4.below) (HO1.out.2.2.up g4.below)
      rw [HEb.out.1, HEb.out.2, HEx.out.1, HEx.out.2, holdG_of (by have := HBm.out.1; omega)] at kH
      have b0 := cb 0 _ rfl
      have b1 := cb 1 _ rfl
      have b2 := cb 2 _ rfl
      have b3 := cb 3 _ rfl
      have b4 := cb 4 _ rfl
      have b5 := cb 5 _ rfl
      rw [HEb.out.1] at b2
      rw [HEb.out.2] at b5
      have x0 := cx 0 _ rfl
      have x1 := cx 1 _ rfl
      have x2 := cx 2 _ rfl
      rw [HEx.out.1] at x1
      rw [HEx.out.2] at x2
      have HG4 : Hid (Grows V1 w4) := g4
      obtain ⟨q, hq⟩ : ∃ q, q = b.hold X := ⟨_, rfl⟩
      rw [← hq] at kH
      have HQ : Hid (q = b.hold X) := hq
      clear cb cx g4 hq
      go_wp2_with fail
      refine kH.mono ?_
      rintro e w5 ⟨rfl, g5⟩
      have g5 := HG4.out.trans g5
      clear kH b0 b1 b2 b3 b4 b5 x0 x1 x2
      have ca := fun c u hc => cell_up g5.below (HC1.out.1 c u hc)
      have cb := fun c u hc => cell_up g5.below (HC1.out.2.1 c u hc)
      have a0 := ca 0 _ rfl
      have a1 := ca 1 _ rfl
      have a2 := ca 2 _ rfl
      have a3 := ca 3 _ rfl
      have a4 := ca 4 _ rfl
      have a5 := ca 5 _ rfl
      rw [HEa.out.1] at a2
      rw [HEa.out.2] at a5
      have b0 := cb 0 _ rfl
      have b1 := cb 1 _ rfl
      have b2 := cb 2 _ rfl
      have b3 := cb 3 _ rfl
      have b4 := cb 4 _ rfl
      have b5 := cb 5 _ rfl
      rw [HEb.out.1] at b2
      rw [HEb.out.2] at b5
      obtain ⟨Z0, hZ0⟩ : ∃ V, V = w5.alloc (.cells #[.int .i64 a.k, .int .i64 a.d, .slice at' nt ct, .int .i64 a.lo, .int .i64 a.hi, .slice ak nk ck, .int .i64 b.k, .int .i64 b.d, .slice bt' mt dt, .int .i64 b.lo, .int .i64 b.hi, .slice bk mk dk] 27) := ⟨_, rfl⟩
      obtain ⟨Z1, hZ1⟩ : ∃ V, V = Z0.alloc (.cells #[.int .i64 3, .int .i64 0, .slice none 0 0, .int .i64 0, .int .i64 0, .slice (some ⟨w5.heap.size, 0, none⟩) 2 2] 27) := ⟨_, rfl⟩
      obtain ⟨Z2, hZ2⟩ : ∃ V, V = Z1.alloc (.cells #[.int .i64 a.k, .int .i64 a.d, .slice at' nt ct, .int .i64 a.lo, .int .i64 a.hi, .slice ak nk ck, .int .i64 b.k, .int .i64 b.d, .slice bt' mt dt, .int .i64 b.lo, .int .i64 b.hi, .slice bk mk dk] 27) := ⟨_, rfl⟩
      obtain ⟨Z3, hZ3⟩ : ∃ V, V = Z2.alloc (.cells #[.int .i64 4, .int .i64 0, .slice none 0 0, .int .i64 0, .int .i64 0, .slice (some ⟨w5.heap.size + 1 + 1, 0, none⟩) 2 2] 27) := ⟨_, rfl⟩
      obtain ⟨Z4, hZ4⟩ : ∃ V, V = Z3.alloc (.cells #[.int .i64 a.k, .int .i64 a.d, .slice at' nt ct, .int .i64 a.lo, .int .i64 a.hi, .slice ak nk ck] 27) := ⟨_, rfl⟩
      obtain ⟨Z, hZ5⟩ : ∃ V, V = Z4.alloc (.cells #[.int .i64 2, .int .i64 0, .slice none 0 0, .int .i64 0, .int .i64 0, .slice (some ⟨w5.heap.size + 1 + 1 + 1 + 1, 0, none⟩) 1 1] 27) := ⟨_, rfl⟩
      have s0 : Z0.heap.size = w5.heap.size + 1 := by rw [hZ0]; simp
      have s1 : Z1.heap.size = w5.heap.size + 1 + 1 := by rw [hZ1]; simp [s0]
      have s2 : Z2.heap.size = w5.heap.size + 1 + 1 + 1 := by rw [hZ2]; simp [s1]
      have s3 : Z3.heap.size = w5.heap.size + 1 + 1 + 1 + 1 := by rw [hZ3]; simp [s2]
      have s4 : Z4.heap.size = w5.heap.size + 1 + 1 + 1 + 1 + 1 := by rw [hZ4]; simp [s3]
      have gZ : Grows w5 Z := by
        rw [hZ5, hZ4, hZ3, hZ2, hZ1, hZ0]
        exact (((((Grows.alloc _ _).trans (Grows.alloc _ _)).trans (Grows.alloc _ _)).trans (Grows.alloc _ _)).trans (Grows.alloc _ _)).trans (Grows.alloc _ _)
      have gVZ : Grows V1 Z := g5.trans gZ
      have hcell2 : ∀ j u, (tvs [a, b])[j]? = some u → (#[Value.int .i64 a.k, .int .i64 a.d, .slice at' nt ct, .int .i64 a.lo, .int .i64 a.hi, .slice ak nk ck, .int .i64 b.k, .int .i64 b.d, .slice bt' mt dt, .int .i64 b.lo, .int .i64 b.hi, .slice bk mk dk])[j]? = some u := fun j u hj => by
        rw [HEa.out.1.symm, HEa.out.2.symm, HEb.out.1.symm, HEb.out.2.symm]
        rw [List.getElem?_toArray]
        exact hj
      have hcell1 : ∀ j u, (tvs [a])[j]? = some u → (#[Value.int .i64 a.k, .int .i64 a.d, .slice at' nt ct, .int .i64 a.lo, .int .i64 a.hi, .slice ak nk ck])[j]? = some u := fun j u hj => by
        rw [HEa.out.1.symm, HEa.out.2.symm]
        rw [List.getElem?_toArray]
        exact hj
      have okab : ∀ t ∈ [a, b], t.Ok Z := fun t ht => by
        simp only [List.mem_cons, List.not_mem_nil, or_false] at ht
        rcases ht with rfl | rfl
        · exact HO1.out.1.up gVZ.below
        · exact HO1.out.2.1.up gVZ.below
      have r3 : RdsT Z (.slice (some ⟨w5.heap.size, 0, none⟩) 2 2) [a, b] := rdsT_of rfl (by omega) (fun j u hj => by
        rw [hZ5, hZ4, hZ3, hZ2, hZ1, hZ0]
        exact cell_alloc_sl _ (cell_alloc_sl _ (cell_alloc_sl _ (cell_alloc_sl _ (cell_alloc_sl _ (al_new _ _ _ rfl (hcell2 j u hj))))))) okab
      have r4 : RdsT Z (.slice (some ⟨w5.heap.size + 1 + 1, 0, none⟩) 2 2) [a, b] := rdsT_of rfl (by omega) (fun j u hj => by
        rw [hZ5, hZ4, hZ3, hZ2]
        exact cell_alloc_sl _ (cell_alloc_sl _ (cell_alloc_sl _ (al_new _ _ _ s1.symm (hcell2 j u hj))))) okab
      have r2 : RdsT Z (.slice (some ⟨w5.heap.size + 1 + 1 + 1 + 1, 0, none⟩) 1 1) [a] := rdsT_of rfl (by omega) (fun j u hj => by
        rw [hZ5, hZ4]
        exact cell_alloc_sl _ (al_new _ _ _ s3.symm (hcell1 j u hj))) fun t ht => by
          simp only [List.mem_singleton] at ht
          subst ht
          exact HO1.out.1.up gVZ.below
      have HOK : Hid ((pairT 3 w5.heap.size a b).Ok Z ∧ (pairT 4 (w5.heap.size + 1 + 1) a b).Ok Z ∧ (oneT (w5.heap.size + 1 + 1 + 1 + 1) a).Ok Z ∧ X.Ok Z) := ⟨.mk (Rds.nil Z) r3.r r3.ok, .mk (Rds.nil Z) r4.r r4.ok, .mk (Rds.nil Z) r2.r r2.ok, HO1.out.2.2.up gVZ.below⟩
      have c3 : ∀ c u, (#[Value.int .i64 3, .int .i64 0, .slice none 0 0, .int .i64 0, .int .i64 0, .slice (some ⟨w5.heap.size, 0, none⟩) 2 2])[c]? = some u → Z.cell? ⟨w5.heap.size + 1, c, none⟩ = some u := fun c u hc => by
        rw [hZ5, hZ4, hZ3, hZ2, hZ1]
        exact cell_alloc_sl _ (cell_alloc_sl _ (cell_alloc_sl _ (cell_alloc_sl _ (al_new _ _ _ s0.symm hc))))
      have c4 : ∀ c u, (#[Value.int .i64 4, .int .i64 0, .slice none 0 0, .int .i64 0, .int .i64 0, .slice (some ⟨w5.heap.size + 1 + 1, 0, none⟩) 2 2])[c]? = some u → Z.cell? ⟨w5.heap.size + 1 + 1 + 1, c, none⟩ = some u := fun c u hc => by
        rw [hZ5, hZ4, hZ3]
        exact cell_alloc_sl _ (cell_alloc_sl _ (al_new _ _ _ s2.symm hc))
      have c2 : ∀ c u, (#[Value.int .i64 2, .int .i64 0, .slice none 0 0, .int .i64 0, .int .i64 0, .slice (some ⟨w5.heap.size + 1 + 1 + 1 + 1, 0, none⟩) 1 1])[c]? = some u → Z.cell? ⟨w5.heap.size + 1 + 1 + 1 + 1 + 1, c, none⟩ = some u := fun c u hc => by
        rw [hZ5]
        exact al_new _ _ _ s4.symm hc
      have cxZ := fun c u hc => cell_up gVZ.below (HC1.out.2.2.1 c u hc)
      have csZ := fun c u hc => cell_up gVZ.below (HC1.out.2.2.2 c u hc)
      have HCZ : Aside _ := And.intro c3 (And.intro c4 (And.intro c2 (And.intro cxZ csZ)))
      have HBZ : Hid (Below w.heap.size w Z) := HB1.out.trans (gVZ.below.mono HB1.out.size)
      have hZ : Z = (((((w5.alloc (.cells #[.int .i64 a.k, .int .i64 a.d, .slice at' nt ct, .int .i64 a.lo, .int .i64 a.hi, .slice ak nk ck, .int .i64 b.k, .int .i64 b.d, .slice bt' mt dt, .int .i64 b.lo, .int .i64 b.hi, .slice bk mk dk] 27)).alloc (.cells #[.int .i64 3, .int .i64 0, .slice none 0 0, .int .i64 0, .int .i64 0, .slice (some ⟨w5.heap.size, 0, none⟩) 2 2] 27)).alloc (.cells #[.int .i64 a.k, .int .i64 a.d, .slice at' nt ct, .int .i64 a.lo, .int .i64 a.hi, .slice ak nk ck, .int .i64 b.k, .int .i64 b.d, .slice bt' mt dt, .int .i64 b.lo, .int .i64 b.hi, .slice bk mk dk] 27)).alloc (.cells #[.int .i64 4, .int .i64 0, .slice none 0 0, .int .i64 0, .int .i64 0, .slice (some ⟨w5.heap.size + 1 + 1, 0, none⟩) 2 2] 27)).alloc (.cells #[.int .i64 a.k, .int .i64 a.d, .slice at' nt ct, .int .i64 a.lo, .int .i64 a.hi, .slice ak nk ck] 27)).alloc (.cells #[.int .i64 2, .int .i64 0, .slice none 0 0, .int .i64 0, .int .i64 0, .slice (some ⟨w5.heap.size + 1 + 1 + 1 + 1, 0, none⟩) 1 1] 27) := by rw [hZ5, hZ4, hZ3, hZ2, hZ1, hZ0]
      have HZ : Hid _ := hZ
      have a0p := fun o1 o2 => cell_alloc_sl o2 (cell_alloc_sl o1 a0)
      have a1p := fun o1 o2 => cell_alloc_sl o2 (cell_alloc_sl o1 a1)
      have a2p := fun o1 o2 => cell_alloc_sl o2 (cell_alloc_sl o1 a2)
      have a3p := fun o1 o2 => cell_alloc_sl o2 (cell_alloc_sl o1 a3)
      have a4p := fun o1 o2 => cell_alloc_sl o2 (cell_alloc_sl o1 a4)
      have a5p := fun o1 o2 => cell_alloc_sl o2 (cell_alloc_sl o1 a5)
      have b0p := fun o1 o2 => cell_alloc_sl o2 (cell_alloc_sl o1 b0)
      have b1p := fun o1 o2 => cell_alloc_sl o2 (cell_alloc_sl o1 b1)
      have b2p := fun o1 o2 => cell_alloc_sl o2 (cell_alloc_sl o1 b2)
      have b3p := fun o1 o2 => cell_alloc_sl o2 (cell_alloc_sl o1 b3)
      have b4p := fun o1 o2 => cell_alloc_sl o2 (cell_alloc_sl o1 b4)
      have b5p := fun o1 o2 => cell_alloc_sl o2 (cell_alloc_sl o1 b5)
      have a0q := fun o1 o2 o3 o4 => cell_alloc_sl o4 (cell_alloc_sl o3 (cell_alloc_sl o2 (cell_alloc_sl o1 a0)))
      have a1q := fun o1 o2 o3 o4 => cell_alloc_sl o4 (cell_alloc_sl o3 (cell_alloc_sl o2 (cell_alloc_sl o1 a1)))
      have a2q := fun o1 o2 o3 o4 => cell_alloc_sl o4 (cell_alloc_sl o3 (cell_alloc_sl o2 (cell_alloc_sl o1 a2)))
      have a3q := fun o1 o2 o3 o4 => cell_alloc_sl o4 (cell_alloc_sl o3 (cell_alloc_sl o2 (cell_alloc_sl o1 a3)))
      have a4q := fun o1 o2 o3 o4 => cell_alloc_sl o4 (cell_alloc_sl o3 (cell_alloc_sl o2 (cell_alloc_sl o1 a4)))
      have a5q := fun o1 o2 o3 o4 => cell_alloc_sl o4 (cell_alloc_sl o3 (cell_alloc_sl o2 (cell_alloc_sl o1 a5)))
      have kC := check_any Z X.ds.length X.ms.length _ HOK.out.1
      have z3 := six3 HCZ.out.1
      obtain ⟨z30, z31, z32, z33, z34, z35⟩ := z3
      have sZ0 := HCZ.out.2.2.2.2 0 _ rfl
      have sZ1 := HCZ.out.2.2.2.2 1 _ rfl
      obtain ⟨l0, l1, l2, l3, l4, l5⟩ := pair_lens 3 w5.heap.size a b
      rw [l0, l1, l2, l3, l4, l5, hZ] at kC
      rw [hZ] at z30 z31 z32 z33 z34 z35 sZ0 sZ1
      clear hZ0 hZ1 hZ2 hZ3 hZ4 hZ5 s0 s1 s2 s3 s4 gZ gVZ hcell2 hcell1 okab r3 r4 r2 c3 c4 c2 cxZ csZ hZ l0 l1 l2 l3 l4 l5 ca cb g5
      cases hM : (pairT 3 w5.heap.size a b).may X.ds.length X.ms.length with
      | false =>
        rw [hM, show errB false = 1 from rfl] at kC
        have HBad : Hid ((200 < (pairT 3 w5.heap.size a b).sz ∨ 20 < (pairT 3 w5.heap.size a b).dp) ∨ 200 < (oneT (w5.heap.size + 1 + 1 + 1 + 1) a).sz ∨ 20 < (oneT (w5.heap.size + 1 + 1 + 1 + 1) a).dp) := .inl (may_bad hM (pair_fit (.inl rfl) _ HA.out.2.2 HBm.out.2.2))
        go_wp2_with fail
        refine kC.mono ?_
        rintro e w6 ⟨rfl, g6⟩
        rw [← HZ.out] at g6
        clear kC a0 a1 a2 a3 a4 a5 b0 b1 b2 b3 b4 b5 a0p a1p a2p a3p a4p a5p b0p b1p b2p b3p b4p b5p a0q a1q a2q a3q a4q a5q z30 z31 z32 z33 z34 z35 sZ0 sZ1 hM
        have HD3 : Hid ((pairT 3 w5.heap.size a b).dp ≤ 1000 ∧ (pairT 3 w5.heap.size a b).sz ≤ 1000) := ⟨Nat.le_trans (dp_le_sz _) (by rw [pair_sz (.inl rfl)]; have := HA.out.1; have := HBm.out.1; omega), by rw [pair_sz (.inl rfl)]; have := HA.out.1; have := HBm.out.1; omega⟩
        have HD2 : Hid ((oneT (w5.heap.size + 1 + 1 + 1 + 1) a).dp ≤ 1000 ∧ (oneT (w5.heap.size + 1 + 1 + 1 + 1) a).sz ≤ 1000) := ⟨Nat.le_trans (dp_le_sz _) (by rw [one_sz]; have := HA.out.1; omega), by rw [one_sz]; have := HA.out.1; omega⟩
        have kD := refdepth_any _ (pairT 3 w5.heap.size a b) (Nat.lt_succ_self _) w6 (HOK.out.1.up g6.below) HD3.out.2
        obtain ⟨l0, l1, l2, l3, l4, l5⟩ := pair_lens 3 w5.heap.size a b
        rw [l0, l1, l2, l3, l4, l5] at kD
        clear l0 l1 l2 l3 l4 l5
        obtain ⟨P, hP⟩ : ∃ P, P = (pairT 3 w5.heap.size a b).dp := ⟨_, rfl⟩
        rw [← hP] at kD
        have hP1 : P ≤ 1000 := by rw [hP]; exact HD3.out.1
        have HP3 : Hid (P = (pairT 3 w5.heap.size a b).dp) := hP
        have zf := fun c u hc => cell_up g6.below (HCZ.out.1 c u hc)
        have z0 := zf 0 _ rfl
        have z1 := zf 1 _ rfl
        have z2 := zf 2 _ rfl
        have z3 := zf 3 _ rfl
        have z4 := zf 4 _ rfl
        have z5 := zf 5 _ rfl
        clear zf
        have HGG : Hid (Grows Z w6) := g6
        clear hP g6
        go_wp2_with fail
        refine kD.mono ?_
        rintro e v1 ⟨rfl, h1⟩
        have h1 := HGG.out.trans h1
        clear kD z0 z1 z2 z3 z4 z5
        by_cases c1 : (20 : Int) < (P : Int)
        · have c1d : decide ((20 : Int) < (P : Int)) = true := decide_eq_true c1
          go_wp2_with fail
          go_ret
          exact ⟨by simp, HBZ.out.trans (h1.below.mono HBZ.out.size)⟩
        · have c1d : decide ((20 : Int) < (P : Int)) = false := decide_eq_false c1
          have kD := refdepth_any _ (oneT (w5.heap.size + 1 + 1 + 1 + 1) a) (Nat.lt_succ_self _) v1 (HOK.out.2.2.1.up h1.below) HD2.out.2
          obtain ⟨l0, l1, l2, l3, l4, l5⟩ := one_lens (w5.heap.size + 1 + 1 + 1 + 1) a
          rw [l0, l1, l2, l3, l4, l5] at kD
          clear l0 l1 l2 l3 l4 l5
          obtain ⟨R, hR⟩ : ∃ R, R = (oneT (w5.heap.size + 1 + 1 + 1 + 1) a).dp := ⟨_, rfl⟩
          rw [← hR] at kD
          have hR1 : R ≤ 1000 := by rw [hR]; exact HD2.out.1
          have HR3 : Hid (R = (oneT (w5.heap.size + 1 + 1 + 1 + 1) a).dp) := hR
          have zf := fun c u hc => cell_up h1.below (HCZ.out.2.2.1 c u hc)
          have z0 := zf 0 _ rfl
          have z1 := zf 1 _ rfl
          have z2 := zf 2 _ rfl
          have z3 := zf 3 _ rfl
          have z4 := zf 4 _ rfl
          have z5 := zf 5 _ rfl
          clear zf
          have HG1 : Hid (Grows Z v1) := h1
          clear hR h1
          go_wp2_with fail
          refine kD.mono ?_
          rintro e v2 ⟨rfl, h2⟩
          have h2 := HG1.out.trans h2
          clear kD z0 z1 z2 z3 z4 z5
          by_cases c2 : (20 : Int) < (R : Int)
          · have c2d : decide ((20 : Int) < (R : Int)) = true := decide_eq_true c2
            go_wp2_with fail
            go_ret
            exact ⟨by simp, HBZ.out.trans (h2.below.mono HBZ.out.size)⟩
          · have c2d : decide ((20 : Int) < (R : Int)) = false := decide_eq_false c2
            have kD := size_any v2 (pairT 3 w5.heap.size a b) (HOK.out.1.up h2.below)
            obtain ⟨l0, l1, l2, l3, l4, l5⟩ := pair_lens 3 w5.heap.size a b
            rw [l0, l1, l2, l3, l4, l5] at kD
            clear l0 l1 l2 l3 l4 l5
            obtain ⟨S, hS⟩ : ∃ S, S = min 201 (pairT 3 w5.heap.size a b).sz := ⟨_, rfl⟩
            rw [← hS] at kD
            have hS1 : S ≤ 201 := by omega
            have HS3 : Hid (S = min 201 (pairT 3 w5.heap.size a b).sz) := hS
            have zf := fun c u hc => cell_up h2.below (HCZ.out.1 c u hc)
            have z0 := zf 0 _ rfl
            have z1 := zf 1 _ rfl
            have z2 := zf 2 _ rfl
            have z3 := zf 3 _ rfl
            have z4 := zf 4 _ rfl
            have z5 := zf 5 _ rfl
            clear zf
            have HG2' : Hid (Grows Z v2) := h2
            clear hS h2
            go_wp2_with fail
            refine kD.mono ?_
            rintro e v3 ⟨rfl, h3⟩
            have h3 := HG2'.out.trans h3
            clear kD z0 z1 z2 z3 z4 z5
            by_cases c3 : (200 : Int) < (S : Int)
            · have c3d : decide ((200 : Int) < (S : Int)) = true := decide_eq_true c3
              go_wp2_with fail
              go_ret
              exact ⟨by simp, HBZ.out.trans (h3.below.mono HBZ.out.size)⟩
            · have c3d : decide ((200 : Int) < (S : Int)) = false := decide_eq_false c3
              have kD := size_any v3 (oneT (w5.heap.size + 1 + 1 + 1 + 1) a) (HOK.out.2.2.1.up h3.below)
              obtain ⟨l0, l1, l2, l3, l4, l5⟩ := one_lens (w5.heap.size + 1 + 1 + 1 + 1) a
              rw [l0, l1, l2, l3, l4, l5] at kD
              clear l0 l1 l2 l3 l4 l5
              have h4 : min 201 (oneT (w5.heap.size + 1 + 1 + 1 + 1) a).sz = 201 := by
                have e1 := HBad.out
                have e2 := HP3.out
                have e3 := HR3.out
                have e4 := HS3.out
                omega
              rw [h4] at kD
              have zf := fun c u hc => cell_up h3.below (HCZ.out.2.2.1 c u hc)
              have z0 := zf 0 _ rfl
              have z1 := zf 1 _ rfl
              have z2 := zf 2 _ rfl
              have z3 := zf 3 _ rfl
              have z4 := zf 4 _ rfl
              have z5 := zf 5 _ rfl
              clear zf
              have HG3' : Hid (Grows Z v3) := h3
              clear h4 h3
              go_wp2_with fail
              refine kD.mono ?_
              rintro e v4 ⟨rfl, h4⟩
              have h4 := HG3'.out.trans h4
              go_wp2_with fail
              go_ret
              exact ⟨by simp, HBZ.out.trans (h4.below.mono HBZ.out.size)⟩
      | true =>
        rw [hM, show errB true = 0 from rfl] at kC
        have HMA : Hid _ := may_good hM
        go_wp2_with fail
        refine kC.mono ?_
        rintro e w6 ⟨rfl, g6⟩
        rw [← HZ.out] at g6
        clear kC a0 a1 a2 a3 a4 a5 b0 b1 b2 b3 b4 b5 a0p a1p a2p a3p a4p a5p b0p b1p b2p b3p b4p b5p a0q a1q a2q a3q a4q a5q z30 z31 z32 z33 z34 z35 sZ0 sZ1 hM
        have kC := check_any w6 X.ds.length X.ms.length _ (HOK.out.2.2.1.up g6.below)
        obtain ⟨l0, l1, l2, l3, l4, l5⟩ := one_lens (w5.heap.size + 1 + 1 + 1 + 1) a
        rw [l0, l1, l2, l3, l4, l5] at kC
        clear l0 l1 l2 l3 l4 l5
        have zf := fun c u hc => cell_up g6.below (HCZ.out.2.2.1 c u hc)
        have z0 := zf 0 _ rfl
        have z1 := zf 1 _ rfl
        have z2 := zf 2 _ rfl
        have z3 := zf 3 _ rfl
        have z4 := zf 4 _ rfl
        have z5 := zf 5 _ rfl
        clear zf
        have sf := fun c u hc => cell_up g6.below (HCZ.out.2.2.2.2 c u hc)
        have s0 := sf 0 _ rfl
        have s1 := sf 1 _ rfl
        clear sf
        have HG6 : Hid (Grows Z w6) := g6
        clear g6
        cases hM : (oneT (w5.heap.size + 1 + 1 + 1 + 1) a).may X.ds.length X.ms.length with
        | false =>
          rw [hM, show errB false = 1 from rfl] at kC
          have HBad : Hid ((200 < (pairT 3 w5.heap.size a b).sz ∨ 20 < (pairT 3 w5.heap.size a b).dp) ∨ 200 < (oneT (w5.heap.size + 1 + 1 + 1 + 1) a).sz ∨ 20 < (oneT (w5.heap.size + 1 + 1 + 1 + 1) a).dp) := .inr (may_bad hM (one_fit _ HA.out.2.2))
          go_wp2_with fail
          refine kC.mono ?_
          rintro e w7 ⟨rfl, g7⟩
          have g7 := HG6.out.trans g7
          clear kC z0 z1 z2 z3 z4 z5 s0 s1 hM
          have HD3 : Hid ((pairT 3 w5.heap.size a b).dp ≤ 1000 ∧ (pairT 3 w5.heap.size a b).sz ≤ 1000) := ⟨Nat.le_trans (dp_le_sz _) (by rw [pair_sz (.inl rfl)]; have := HA.out.1; have := HBm.out.1; omega), by rw [pair_sz (.inl rfl)]; have := HA.out.1; have := HBm.out.1; omega⟩
          have HD2 : Hid ((oneT (w5.heap.size + 1 + 1 + 1 + 1) a).dp ≤ 1000 ∧ (oneT (w5.heap.size + 1 + 1 + 1 + 1) a).sz ≤ 1000) := ⟨Nat.le_trans (dp_le_sz _) (by rw [one_sz]; have := HA.out.1; omega), by rw [one_sz]; have := HA.out.1; omega⟩
          have kD := refdepth_any _ (pairT 3 w5.heap.size a b) (Nat.lt_succ_self _) w7 (HOK.out.1.up g7.below) HD3.out.2
          obtain ⟨l0, l1, l2, l3, l4, l5⟩ := pair_lens 3 w5.heap.size a b
          rw [l0, l1, l2, l3, l4, l5] at kD
          clear l0 l1 l2 l3 l4 l5
          obtain ⟨P, hP⟩ : ∃ P, P = (pairT 3 w5.heap.size a b).dp := ⟨_, rfl⟩
          rw [← hP] at kD
          have hP1 : P ≤ 1000 := by rw [hP]; exact HD3.out.1
          have HP3 : Hid (P = (pairT 3 w5.heap.size a b).dp) := hP
          have zf := fun c u hc => cell_up g7.below (HCZ.out.1 c u hc)
          have z0 := zf 0 _ rfl
          have z1 := zf 1 _ rfl
          have z2 := zf 2 _ rfl
          have z3 := zf 3 _ rfl
          have z4 := zf 4 _ rfl
          have z5 := zf 5 _ rfl
          clear zf
          have HGG : Hid (Grows Z w7) := g7
          clear hP g7
          go_wp2_with fail
          refine kD.mono ?_
          rintro e v1 ⟨rfl, h1⟩
          have h1 := HGG.out.trans h1
          clear kD z0 z1 z2 z3 z4 z5
          by_cases c1 : (20 : Int) < (P : Int)
          · have c1d : decide ((20 : Int) < (P : Int)) = true := decide_eq_true c1
            go_wp2_with fail
            go_ret
            exact ⟨by simp, HBZ.out.trans (h1.below.mono HBZ.out.size)⟩
          · have c1d : decide ((20 : Int) < (P : Int)) = false := decide_eq_false c1
            have kD := refdepth_any _ (oneT (w5.heap.size + 1 + 1 + 1 + 1) a) (Nat.lt_succ_self _) v1 (HOK.out.2.2.1.up h1.below) HD2.out.2
            obtain ⟨l0, l1, l2, l3, l4, l5⟩ := one_lens (w5.heap.size + 1 + 1 + 1 + 1) a
            rw [l0, l1, l2, l3, l4, l5] at kD
            clear l0 l1 l2 l3 l4 l5
            obtain ⟨R, hR⟩ : ∃ R, R = (oneT (w5.heap.size + 1 + 1 + 1 + 1) a).dp := ⟨_, rfl⟩
            rw [← hR] at kD
            have hR1 : R ≤ 1000 := by rw [hR]; exact HD2.out.1
            have HR3 : Hid (R = (oneT (w5.heap.size + 1 + 1 + 1 + 1) a).dp) := hR
            have zf := fun c u hc => cell_up h1.below (HCZ.out.2.2.1 c u hc)
            have z0 := zf 0 _ rfl
            have z1 := zf 1 _ rfl
            have z2 := zf 2 _ rfl
            have z3 := zf 3 _ rfl
            have z4 := zf 4 _ rfl
            have z5 := zf 5 _ rfl
            clear zf
            have HG1 : Hid (Grows Z v1) := h1
            clear hR h1
            go_wp2_with fail
            refine kD.mono ?_
            rintro e v2 ⟨rfl, h2⟩
            have h2 := HG1.out.trans h2
            clear kD z0 z1 z2 z3 z4 z5
            by_cases c2 : (20 : Int) < (R : Int)
            · have c2d : decide ((20 : Int) < (R : Int)) = true := decide_eq_true c2
              go_wp2_with fail
              go_ret
              exact ⟨by simp, HBZ.out.trans (h2.below.mono HBZ.out.size)⟩
            · have c2d : decide ((20 : Int) < (R : Int)) = false := decide_eq_false c2
              have kD := size_any v2 (pairT 3 w5.heap.size a b) (HOK.out.1.up h2.below)
              obtain ⟨l0, l1, l2, l3, l4, l5⟩ := pair_lens 3 w5.heap.size a b
              rw [l0, l1, l2, l3, l4, l5] at kD
              clear l0 l1 l2 l3 l4 l5
              obtain ⟨S, hS⟩ : ∃ S, S = min 201 (pairT 3 w5.heap.size a b).sz := ⟨_, rfl⟩
              rw [← hS] at kD
              have hS1 : S ≤ 201 := by omega
              have HS3 : Hid (S = min 201 (pairT 3 w5.heap.size a b).sz) := hS
              have zf := fun c u hc => cell_up h2.below (HCZ.out.1 c u hc)
              have z0 := zf 0 _ rfl
              have z1 := zf 1 _ rfl
              have z2 := zf 2 _ rfl
              have z3 := zf 3 _ rfl
              have z4 := zf 4 _ rfl
              have z5 := zf 5 _ rfl
              clear zf
              have HG2' : Hid (Grows Z v2) := h2
              clear hS h2
              go_wp2_with fail
              refine kD.mono ?_
              rintro e v3 ⟨rfl, h3⟩
              have h3 := HG2'.out.trans h3
              clear kD z0 z1 z2 z3 z4 z5
              by_cases c3 : (200 : Int) < (S : Int)
              · have c3d : decide ((200 : Int) < (S : Int)) = true := decide_eq_true c3
                go_wp2_with fail
                go_ret
                exact ⟨by simp, HBZ.out.trans (h3.below.mono HBZ.out.size)⟩
              · have c3d : decide ((200 : Int) < (S : Int)) = false := decide_eq_false c3
                have kD := size_any v3 (oneT (w5.heap.size + 1 + 1 + 1 + 1) a) (HOK.out.2.2.1.up h3.below)
                obtain ⟨l0, l1, l2, l3, l4, l5⟩ := one_lens (w5.heap.size + 1 + 1 + 1 + 1) a
                rw [l0, l1, l2, l3, l4, l5] at kD
                clear l0 l1 l2 l3 l4 l5
                have h4 : min 201 (oneT (w5.heap.size + 1 + 1 + 1 + 1) a).sz = 201 := by
                  have e1 := HBad.out
                  have e2 := HP3.out
                  have e3 := HR3.out
                  have e4 := HS3.out
                  omega
                rw [h4] at kD
                have zf := fun c u hc => cell_up h3.below (HCZ.out.2.2.1 c u hc)
                have z0 := zf 0 _ rfl
                have z1 := zf 1 _ rfl
                have z2 := zf 2 _ rfl
                have z3 := zf 3 _ rfl
                have z4 := zf 4 _ rfl
                have z5 := zf 5 _ rfl
                clear zf
                have HG3' : Hid (Grows Z v3) := h3
                clear h4 h3
                go_wp2_with fail
                refine kD.mono ?_
                rintro e v4 ⟨rfl, h4⟩
                have h4 := HG3'.out.trans h4
                go_wp2_with fail
                go_ret
                exact ⟨by simp, HBZ.out.trans (h4.below.mono HBZ.out.size)⟩
        | true =>
          rw [hM, show errB true = 0 from rfl] at kC
          have HMN : Hid _ := may_good hM
          go_wp2_with fail
          refine kC.mono ?_
          rintro e w7 ⟨rfl, g7⟩
          have g7 := HG6.out.trans g7
          clear kC z0 z1 z2 z3 z4 z5 s0 s1 hM
          have kH := Holds_any w7 X _ (HOK.out.1.up g7.below) (HOK.out.2.2.2.up g7.below)
          rw [holdG_of (by have := HMA.out.1; omega), pair3_hold, ← HP.out, ← HQ.out, HEx.out.1, HEx.out.2] at kH
          obtain ⟨l0, l1, l2, l3, l4, l5⟩ := pair_lens 3 w5.heap.size a b
          rw [l0, l1, l2, l3, l4, l5] at kH
          clear l0 l1 l2 l3 l4 l5
          have zf := fun c u hc => cell_up g7.below (HCZ.out.1 c u hc)
          have z0 := zf 0 _ rfl
          have z1 := zf 1 _ rfl
          have z2 := zf 2 _ rfl
          have z3 := zf 3 _ rfl
          have z4 := zf 4 _ rfl
          have z5 := zf 5 _ rfl
          clear zf
          have xf := fun c u hc => cell_up g7.below (HCZ.out.2.2.2.1 c u hc)
          have x0 := xf 0 _ rfl
          have x1 := xf 1 _ rfl
          have x2 := xf 2 _ rfl
          clear xf
          rw [HEx.out.1] at x1
          rw [HEx.out.2] at x2
          have HG7 : Hid (Grows Z w7) := g7
          clear g7
          have hor : ∀ w8, Grows Z w8 → Calls Try.prog 15 #[.agg #[.int .i64 4, .int .i64 0, .slice none 0 0, .int .i64 0, .int .i64 0, .slice (some ⟨w5.heap.size + 1 + 1, 0, none⟩) 2 2], .agg #[.int .i64 X.t, .slice ad nd cd, .slice am nm cm]] w8 fun e w' => e = .returned (.bool (p || q)) ∧ Grows w8 w' := fun w8 g8 => by
            have kH := Holds_any w8 X _ (HOK.out.2.1.up g8.below) (HOK.out.2.2.2.up g8.below)
            rw [holdG_of (by have h1 := HMA.out.1; rw [pair_sz (.inl rfl)] at h1; rw [pair_sz (.inr rfl)]; omega), pair4_hold, ← HP.out, ← HQ.out, HEx.out.1, HEx.out.2] at kH
            exact kH
          have hnot : ∀ w8, Grows Z w8 → Calls Try.prog 15 #[.agg #[.int .i64 2, .int .i64 0, .slice none 0 0, .int .i64 0, .int .i64 0, .slice (some ⟨w5.heap.size + 1 + 1 + 1 + 1, 0, none⟩) 1 1], .agg #[.int .i64 X.t, .slice ad nd cd, .slice am nm cm]] w8 fun e w' => e = .returned (.bool (!p)) ∧ Grows w8 w' := fun w8 g8 => by
            have kH := Holds_any w8 X _ (HOK.out.2.2.1.up g8.below) (HOK.out.2.2.2.up g8.below)
            rw [holdG_of (by have := HMN.out.1; omega), one_hold, ← HP.out, HEx.out.1, HEx.out.2] at kH
            exact kH
          have HOR : Aside _ := hor
          have HNT : Aside _ := hnot
          clear hor hnot
          cases p <;> cases q <;>
            (simp only [Bool.and_self, Bool.and_false, Bool.false_and] at kH
             go_wp2_with fail
             refine kH.mono ?_
             rintro e w8 ⟨rfl, g8⟩
             have g8 := HG7.out.trans g8
             clear kH z0 z1 z2 z3 z4 z5 x0 x1 x2
             have kH := HOR.out w8 g8
             simp only [Bool.or_self, Bool.or_true, Bool.or_false] at kH
             have zf := fun c u hc => cell_up g8.below (HCZ.out.2.1 c u hc)
             have z0 := zf 0 _ rfl
             have z1 := zf 1 _ rfl
             have z2 := zf 2 _ rfl
             have z3 := zf 3 _ rfl
             have z4 := zf 4 _ rfl
             have z5 := zf 5 _ rfl
             clear zf
             have xf := fun c u hc => cell_up g8.below (HCZ.out.2.2.2.1 c u hc)
             have x0 := xf 0 _ rfl
             have x1 := xf 1 _ rfl
             have x2 := xf 2 _ rfl
             clear xf
             rw [HEx.out.1] at x1
             rw [HEx.out.2] at x2
             have HG8 : Hid (Grows Z w8) := g8
             clear g8
             go_wp2_with fail
             refine kH.mono ?_
             rintro e w9 ⟨rfl, g9⟩
             have g9 := HG8.out.trans g9
             clear kH z0 z1 z2 z3 z4 z5 x0 x1 x2
             have kH := HNT.out w9 g9
             simp only [Bool.not_true, Bool.not_false] at kH
             have zf := fun c u hc => cell_up g9.below (HCZ.out.2.2.1 c u hc)
             have z0 := zf 0 _ rfl
             have z1 := zf 1 _ rfl
             have z2 := zf 2 _ rfl
             have z3 := zf 3 _ rfl
             have z4 := zf 4 _ rfl
             have z5 := zf 5 _ rfl
             clear zf
             have xf := fun c u hc => cell_up g9.below (HCZ.out.2.2.2.1 c u hc)
             have x0 := xf 0 _ rfl
             have x1 := xf 1 _ rfl
             have x2 := xf 2 _ rfl
             clear xf
             rw [HEx.out.1] at x1
             rw [HEx.out.2] at x2
             have HG9 : Hid (Grows Z w9) := g9
             clear g9
             go_wp2_with fail
             refine kH.mono ?_
             rintro e v1 ⟨rfl, h1⟩
             have h1 := HG9.out.trans h1
             go_wp2_with fail
             go_ret
             exact ⟨by simp, HBZ.out.trans (h1.below.mono HBZ.out.size)⟩)
