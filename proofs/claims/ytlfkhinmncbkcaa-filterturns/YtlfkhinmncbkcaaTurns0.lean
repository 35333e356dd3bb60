/- The walk of FilterTurns. -/
import Derived.Test.YtlfkhinmncbkcaaRMadeZ
import Derived.Test.YtlfkhinmncbkcaaCln
import Derived.Test.YtlfkhinmncbkcaaRSameZ
import Derived.Test.YtlfkhinmncbkcaaRChk
import Derived.Deep.RegionWith
namespace Go.Proofs.Ytlfkhinmncbkcaa
open Go.RowKit Go.Sort

def Six (w : World) (p : Nat) (t : Tr) : Prop := ∀ c u, (#[Value.int .i64 t.k, .int .i64 t.d, t.tv, .int .i64 t.lo, .int .i64 t.hi, t.kv])[c]? = some u → w.cell? ⟨p, c, none⟩ = some u
theorem Six.all {w : World} {p : Nat} {t : Tr} (h : Six w p t) : w.cell? ⟨p, 0, none⟩ = some (.int .i64 t.k) ∧ w.cell? ⟨p, 1, none⟩ = some (.int .i64 t.d) ∧ w.cell? ⟨p, 2, none⟩ = some t.tv ∧ w.cell? ⟨p, 3, none⟩ = some (.int .i64 t.lo) ∧ w.cell? ⟨p, 4, none⟩ = some (.int .i64 t.hi) ∧ w.cell? ⟨p, 5, none⟩ = some t.kv :=
  ⟨h 0 _ rfl, h 1 _ rfl, h 2 _ rfl, h 3 _ rfl, h 4 _ rfl, h 5 _ rfl⟩
theorem Six.up {w w' : World} {p : Nat} {t : Tr} (h : Six w p t) (hb : Below w.heap.size w w') : Six w' p t := fun c u hc => cell_up hb (h c u hc)

set_option maxHeartbeats 16000000 in
theorem turns_walk (w : World) (D M : Int) (t : Tr) (ht : t.Ok w) (lim : t.Lim) :
    Calls Try.prog 6 #[.agg #[.int .i64 D, .int .i64 M], .agg #[.int .i64 t.k, .int .i64 t.d, t.tv, .int .i64 t.lo, .int .i64 t.hi, t.kv]] w fun e w' => e = .returned (.bool true) ∧ Below w.heap.size w w' := by
  obtain ⟨at', nt, ct, ak, nk, ck, e1, e2, -, -, -, -⟩ := ht.lens
  obtain ⟨W0, hW0⟩ : ∃ W, W = w.alloc (.cells #[.int .i64 D, .int .i64 M] 23) := ⟨_, rfl⟩
  obtain ⟨W, hW1⟩ : ∃ W, W = W0.alloc (.cells #[.int .i64 t.k, .int .i64 t.d, t.tv, .int .i64 t.lo, .int .i64 t.hi, t.kv] 27) := ⟨_, rfl⟩
  have s0 : W0.heap.size = w.heap.size + 1 := by rw [hW0]; simp
  have gW : Grows w W := by rw [hW1, hW0]; exact (Grows.alloc _ _).trans (Grows.alloc _ _)
  have cs : ∀ c u, (#[Value.int .i64 D, .int .i64 M])[c]? = some u → W.cell? ⟨w.heap.size, c, none⟩ = some u := fun c u hc => by
    rw [hW1, hW0]; exact cell_alloc_sl _ (al_new _ _ _ rfl hc)
  have ca : Six W (w.heap.size + 1) t := fun c u hc => by
    rw [hW1]; exact al_new _ _ _ s0.symm hc
  have hW : W = (w.alloc (.cells #[.int .i64 D, .int .i64 M] 23)).alloc (.cells #[.int .i64 t.k, .int .i64 t.d, t.tv, .int .i64 t.lo, .int .i64 t.hi, t.kv] 27) := by rw [hW1, hW0]
  have kA := awake_any W
  rw [hW, e1, e2] at kA
  have HC : Hid ((∀ c u, (#[Value.int .i64 D, .int .i64 M])[c]? = some u → W.cell? ⟨w.heap.size, c, none⟩ = some u) ∧ Six W (w.heap.size + 1) t) := ⟨cs, ca⟩
  have HO : Hid (t.Ok W ∧ t.Lim) := ⟨ht.up gW.below, lim⟩
  have HE : Hid (t.tv = .slice at' nt ct ∧ t.kv = .slice ak nk ck) := ⟨e1, e2⟩
  have HG : Hid (Grows w W) := gW
  have HW : Hid _ := hW
  rw [e1, e2] at HW ⊢
  clear ht lim hW0 hW1 s0 gW cs ca hW e1 e2
  go_enter Try.func6, Try.ntmps6
  go_wp2_with fail
  refine kA.mono ?_
  rintro e V ⟨rfl, bV⟩
  rw [← HW.out] at bV
  clear kA
  have kC := refcheck_any V D M t (HO.out.1.up bV)
  rw [HE.out.1, HE.out.2] at kC
  have m0 := cell_up bV (HC.out.1 0 _ rfl)
  have m1 := cell_up bV (HC.out.1 1 _ rfl)
  obtain ⟨a0, a1, a2, a3, a4, a5⟩ := (HC.out.2.up bV).all
  rw [HE.out.1] at a2
  rw [HE.out.2] at a5
  have HBV : Hid (Below W.heap.size W V) := bV
  clear bV
  cases hA : t.may D M with
  | false =>
    rw [hA, show errB false = 1 from rfl] at kC
    go_wp2_with fail
    refine kC.mono ?_
    rintro e w1 ⟨rfl, g1⟩
    have b1 := HBV.out.trans (g1.below.mono HBV.out.size)
    go_wp2_with fail
    go_ret
    exact ⟨rfl, HG.out.below.trans (b1.mono HG.out.below.size)⟩
  | true =>
    rw [hA, show errB true = 0 from rfl] at kC
    have HA : Hid _ := may_good hA
    go_wp2_with fail
    refine kC.mono ?_
    rintro e w1 ⟨rfl, g1⟩
    have b1 := HBV.out.trans (g1.below.mono HBV.out.size)
    clear kC m0 m1 a0 a1 a2 a3 a4 a5 hA g1
    have kN := not_any t w1 (HO.out.1.up b1) HO.out.2 (by have := HA.out.1; omega)
    rw [HE.out.1, HE.out.2] at kN
    obtain ⟨a0, a1, a2, a3, a4, a5⟩ := (HC.out.2.up b1).all
    rw [HE.out.1] at a2
    rw [HE.out.2] at a5
    have HB1 : Hid (Below W.heap.size W w1) := b1
    clear b1
    go_wp2_with fail
    refine kN.mono ?_
    rintro e w2 ⟨n, rfl, okn, -, ern, b2⟩
    clear kN a0 a1 a2 a3 a4 a5
    obtain ⟨at2, nt2, ct2, ak2, nk2, ck2, f1, f2, -, -, -, -⟩ := okn.lens
    obtain ⟨U, hU⟩ : ∃ V, V = w2.alloc (.cells #[.int .i64 n.k, .int .i64 n.d, n.tv, .int .i64 n.lo, .int .i64 n.hi, n.kv] 27) := ⟨_, rfl⟩
    have gU : Grows w2 U := by rw [hU]; exact Grows.alloc _ _
    have bU : Below W.heap.size W U := (HB1.out.trans (b2.mono HB1.out.size)).trans (gU.below.mono (Nat.le_trans HB1.out.size b2.size))
    have cn : Six U w2.heap.size n := fun c u hc => by rw [hU]; exact al_new _ _ _ rfl hc
    have ca := HC.out.2.up bU
    have oknU := okn.up gU.below
    have oktU := HO.out.1.up bU
    have hcl : n.Cl := cl_er n (by rw [ern]; exact cl_turn D M t HA.out.2.2 true)
    have bx : ∀ w', Below U.heap.size U w' → (w'.cell? ⟨w2.heap.size, 0, none⟩ = some (.int .i64 n.k) ∧ w'.cell? ⟨w2.heap.size, 1, none⟩ = some (.int .i64 n.d) ∧ w'.cell? ⟨w2.heap.size, 2, none⟩ = some (.slice at2 nt2 ct2) ∧ w'.cell? ⟨w2.heap.size, 3, none⟩ = some (.int .i64 n.lo) ∧ w'.cell? ⟨w2.heap.size, 4, none⟩ = some (.int .i64 n.hi) ∧ w'.cell? ⟨w2.heap.size, 5, none⟩ = some (.slice ak2 nk2 ck2)) ∧
        w'.cell? ⟨w.heap.size + 1, 0, none⟩ = some (.int .i64 t.k) ∧ w'.cell? ⟨w.heap.size + 1, 1, none⟩ = some (.int .i64 t.d) ∧ w'.cell? ⟨w.heap.size + 1, 2, none⟩ = some (.slice at' nt ct) ∧ w'.cell? ⟨w.heap.size + 1, 3, none⟩ = some (.int .i64 t.lo) ∧ w'.cell? ⟨w.heap.size + 1, 4, none⟩ = some (.int .i64 t.hi) ∧ w'.cell? ⟨w.heap.size + 1, 5, none⟩ = some (.slice ak nk ck) := fun w' b' => by
      have h1 := (cn.up b').all
      have h2 := (ca.up b').all
      rw [f1, f2] at h1
      rw [HE.out.1, HE.out.2] at h2
      exact ⟨h1, h2⟩
    have kM : ∀ w', Below U.heap.size U w' → Calls Try.prog 20 #[.agg #[.int .i64 t.k, .int .i64 t.d, .slice at' nt ct, .int .i64 t.lo, .int .i64 t.hi, .slice ak nk ck], .bool true] w' fun e w'' => ∃ t' : Tr, e = .returned (.agg #[.int .i64 t'.k, .int .i64 t'.d, t'.tv, .int .i64 t'.lo, .int .i64 t'.hi, t'.kv]) ∧ t'.Ok w'' ∧ t'.er = t.turn true ∧ Below U.heap.size U w'' := fun w' b' => by
      have k := refmade_any D M t true w' (oktU.up b') HA.out.2.2 (by have := HA.out.1; omega)
      rw [HE.out.1, HE.out.2] at k
      exact k.mono fun e w'' ⟨t', h1, h2, h3, h4⟩ => ⟨t', h1, h2, h3, b'.trans (h4.mono b'.size)⟩
    have kS : ∀ w' (t' : Tr) a1 n1 c1 a2 n2 c2, t'.tv = .slice a1 n1 c1 → t'.kv = .slice a2 n2 c2 → Below U.heap.size U w' → t'.Ok w' → t'.er = t.turn true → Calls Try.prog 18 #[.agg #[.int .i64 n.k, .int .i64 n.d, .slice at2 nt2 ct2, .int .i64 n.lo, .int .i64 n.hi, .slice ak2 nk2 ck2], .agg #[.int .i64 t'.k, .int .i64 t'.d, .slice a1 n1 c1, .int .i64 t'.lo, .int .i64 t'.hi, .slice a2 n2 c2]] w' fun e w'' => e = .returned (.bool true) ∧ Below U.heap.size U w'' := fun w' t' a1 n1 c1 a2 n2 c2 j1 j2 b' ok' er' => by
      have k := refsame_any n t' w' (oknU.up b') ok'
      rw [f1, f2, j1, j2, same_er n t' (by rw [ern, er'])] at k
      exact k.mono fun e w'' hh => ⟨hh.1, b'.trans (hh.2.below.mono b'.size)⟩
    have kL : ∀ w', Below U.heap.size U w' → Calls Try.prog 21 #[.agg #[.int .i64 n.k, .int .i64 n.d, .slice at2 nt2 ct2, .int .i64 n.lo, .int .i64 n.hi, .slice ak2 nk2 ck2]] w' fun e w'' => e = .returned (.bool true) ∧ Below U.heap.size U w'' := fun w' b' => by
      have k := clean_any _ n (Nat.lt_succ_self _) w' (oknU.up b') hcl
      rw [f1, f2] at k
      exact k.mono fun e w'' hh => ⟨hh.1, b'.trans (hh.2.below.mono b'.size)⟩
    have b0 : Below U.heap.size U U.drew := (Below.refl _ _).drew
    have HBU : Hid (Below w.heap.size w U) := HG.out.below.trans (bU.mono HG.out.below.size)
    rw [f1, f2] at hU ⊢
    have HU : Hid _ := hU
    obtain ⟨⟨x0, x1, x2, x3, x4, x5⟩, y0, y1, y2, y3, y4, y5⟩ := bx _ b0
    clear okn ern b2 f1 f2 hU gU bU cn ca oknU oktU hcl
    go_wp2_with fail
    rw [← HU.out]
    go_region_with (first
      | (go_at_call 20; with_reducible refine (kM _ (by assumption)).mono ?_; rintro e2 w4 ⟨t', rfl, ok4, er4, b4⟩; obtain ⟨at6, nt6, ct6, ak6, nk6, ck6, j1, j2, -, -, -, -⟩ := ok4.lens; have kS4 := kS w4 t' _ _ _ _ _ _ j1 j2 b4 ok4 er4; rw [j1, j2]; obtain ⟨⟨p0, p1, p2, p3, p4, p5⟩, q0, q1, q2, q3, q4, q5⟩ := bx _ b4; clear ok4 er4 j1 j2)
      | (go_at_call 18; with_reducible refine kS4.mono ?_; rintro e3 w5 ⟨rfl, b5⟩; obtain ⟨⟨r0, r1, r2, r3, r4, r5⟩, s0, s1, s2, s3, s4, s5⟩ := bx _ b5)
      | (go_at_call 21; with_reducible refine (kL _ (by assumption)).mono ?_; rintro e4 w6 ⟨rfl, b6⟩))
    all_goals
      go_wp2_with fail
      go_ret
      exact ⟨rfl, HBU.out.trans (b6.mono HBU.out.size)⟩
end Go.Proofs.Ytlfkhinmncbkcaa
