/- The reference's Put: queries. -/
import Derived.Test.YtpdlioidiobbbaaRfs
namespace Go.Proofs.Ytpdlioidiobbbaa
open Go.RowKit

def r_set (x : Value × List Int) : Bs := Num.uv x.2.length ++ x.2.flatMap ei
def r_agg (x : Int × Int) : Bs := ei x.1 ++ ei x.2
def r_query (q : Qw) : Bs := r_span q.F q.T ++ (r_fil q.t ++ (ei q.g ++ (Num.uv q.ss.length ++ (q.ss.flatMap r_set ++ (Num.uv q.ag.length ++ (q.ag.flatMap r_agg ++ (ei q.G ++ ei q.R)))))))
set_option maxRecDepth 100000 in
set_option maxHeartbeats 3200000 in
theorem rquery (W0 w : World) (v : Value) (l : Bs) (q : Qw) (hq : q.Ok W0) (h : Bf W0 w v l) (hN : l.length + (r_query q).length ≤ 1099511627776) :
    Calls Try.prog 32 #[v, .agg #[.int .i64 q.F, .int .i64 q.T, .int .i64 q.t.k, .int .i64 q.t.d, q.t.tv, .int .i64 q.t.lo, .int .i64 q.t.hi, q.t.kv, .int .i64 q.g, q.sv, q.av, .int .i64 q.G, .int .i64 q.R]] w (Adds W0 w (l ++ r_query q)) := by
  obtain ⟨b0, m0, k0, e0⟩ := lst_sl (rds_lst hq.t.rt)
  obtain ⟨b1, m1, k1, e1⟩ := lst_sl (tr_lst hq.t)
  obtain ⟨aos, k2, e2, hs1, hs2⟩ := hq.s.sl
  obtain ⟨aoa, k3, e3, ha1, ha2⟩ := hq.a.sl
  unfold maxLen at hs2 ha2
  obtain ⟨n1, hn1⟩ : ∃ n, n = q.ss.length := ⟨_, rfl⟩
  obtain ⟨n2, hn2⟩ : ∃ n, n = q.ag.length := ⟨_, rfl⟩
  have hS := hq.s
  have hA := hq.a
  rw [← hn1] at e2 hs1
  rw [← hn2] at e3 ha1
  have kF : ∀ (w : World) (v : Value) (l : Bs), Bf W0 w v l → l.length + (r_fil q.t).length ≤ 1099511627776 → _ := fun w v l h hn => rfil W0 w v l q.t hq.t hq.i h hn
  rw [e0, e1] at kF
  rw [e2] at hS
  rw [e3] at hA
  rw [e0, e1, e2, e3]
  have HF : Aside _ := kF
  have HLSS : Hid (Lst 1 cl_set W0 (.slice aos n1 k2) q.ss) := hS
  have HLSA : Hid (Lst 2 cl_agg W0 (.slice aoa n2 k3) q.ag) := hA
  have HLNS : Hid (n1 = q.ss.length) := hn1
  have HLNA : Hid (n2 = q.ag.length) := hn2
  have hnu1 : n1 < 18446744073709551616 := by omega
  have hnu2 : n2 < 18446744073709551616 := by omega
  have hgg := hq.g
  have hGG := hq.c
  have hRR := hq.r
  have HZ : Aside (∀ x ∈ q.ss, Lst 1 cl_int W0 x.1 x.2 ∧ Zs x.2) := hq.z
  have HBG : Aside (∀ x ∈ q.ag, In64 x.1 ∧ In64 x.2) := hq.b
  clear kF hS hA hn1 hn2 e0 e1 e2 e3
  have HN : Hid (l.length + (r_query q).length ≤ 1099511627776) := hN
  have HH : Hid (Bf W0 w v l) := h
  clear hN h
  go_enter Try.func32, Try.ntmps32
  go_wp2_with fail
  have LBa0 : Hid (l.length + (r_span q.F q.T).length ≤ 1099511627776) := (by have e := HN.out; simp only [r_query, List.length_append, ← HLNS.out, ← HLNA.out] at e; apply hide; omega)
  refine (rspan W0 _ v l q.F q.T hq.f hq.e (HH.out.alloc _) LBa0.out).mono ?_
  rintro e wa1 ⟨va1, rfl, B, kt⟩
  obtain ⟨La1, hL⟩ : ∃ L, L = l ++ (r_span q.F q.T) := ⟨_, rfl⟩
  rw [← hL] at B
  have HLa1 : Hid (La1 = l ++ (r_span q.F q.T)) := hL
  clear hL
  have Ha1 : Hid (Bf W0 wa1 va1 La1) := B
  have Ka1 : Hid (KT w wa1) := ((KT.refl w).trans (KT.alloc _ _)).trans kt
  have X0_a1 : Hid (BxA wa1 (w.heap.size) 36 #[.int .i64 q.F, .int .i64 q.T, .int .i64 q.t.k, .int .i64 q.t.d, .slice b0 m0 k0, .int .i64 q.t.lo, .int .i64 q.t.hi, .slice b1 m1 k1, .int .i64 q.g, .slice aos n1 k2, .slice aoa n2 k3, .int .i64 q.G, .int .i64 q.R]) := by apply hide; simpa using ((BxA.new _ 36 #[.int .i64 q.F, .int .i64 q.T, .int .i64 q.t.k, .int .i64 q.t.d, .slice b0 m0 k0, .int .i64 q.t.lo, .int .i64 q.t.hi, .slice b1 m1 k1, .int .i64 q.g, .slice aos n1 k2, .slice aoa n2 k3, .int .i64 q.G, .int .i64 q.R])).kt (kt) (by decide)
  clear B kt
  have q0_0 : wa1.cell? ⟨w.heap.size, 0, none⟩ = some (.int .i64 q.F) := X0_a1.out.cell 0 _ rfl
  have q0_1 : wa1.cell? ⟨w.heap.size, 1, none⟩ = some (.int .i64 q.T) := X0_a1.out.cell 1 _ rfl
  have q0_2 : wa1.cell? ⟨w.heap.size, 2, none⟩ = some (.int .i64 q.t.k) := X0_a1.out.cell 2 _ rfl
  have q0_3 : wa1.cell? ⟨w.heap.size, 3, none⟩ = some (.int .i64 q.t.d) := X0_a1.out.cell 3 _ rfl
  have q0_4 : wa1.cell? ⟨w.heap.size, 4, none⟩ = some (.slice b0 m0 k0) := X0_a1.out.cell 4 _ rfl
  have q0_5 : wa1.cell? ⟨w.heap.size, 5, none⟩ = some (.int .i64 q.t.lo) := X0_a1.out.cell 5 _ rfl
  have q0_6 : wa1.cell? ⟨w.heap.size, 6, none⟩ = some (.int .i64 q.t.hi) := X0_a1.out.cell 6 _ rfl
  have q0_7 : wa1.cell? ⟨w.heap.size, 7, none⟩ = some (.slice b1 m1 k1) := X0_a1.out.cell 7 _ rfl
  have q0_8 : wa1.cell? ⟨w.heap.size, 8, none⟩ = some (.int .i64 q.g) := X0_a1.out.cell 8 _ rfl
  have q0_9 : wa1.cell? ⟨w.heap.size, 9, none⟩ = some (.slice aos n1 k2) := X0_a1.out.cell 9 _ rfl
  have q0_10 : wa1.cell? ⟨w.heap.size, 10, none⟩ = some (.slice aoa n2 k3) := X0_a1.out.cell 10 _ rfl
  have q0_11 : wa1.cell? ⟨w.heap.size, 11, none⟩ = some (.int .i64 q.G) := X0_a1.out.cell 11 _ rfl
  have q0_12 : wa1.cell? ⟨w.heap.size, 12, none⟩ = some (.int .i64 q.R) := X0_a1.out.cell 12 _ rfl
  go_wp2_with fail
  clear q0_0 q0_1 q0_2 q0_3 q0_4 q0_5 q0_6 q0_7 q0_8 q0_9 q0_10 q0_11 q0_12
  clear LBa0
  have LBa1 : Hid (La1.length + (r_fil q.t).length ≤ 1099511627776) := (by have e := HN.out; simp only [r_query, List.length_append, ← HLNS.out, ← HLNA.out] at e; have e0 := congrArg List.length HLa1.out; simp only [List.length_append] at e0; apply hide; omega)
  refine (HF.out wa1 va1 La1 Ha1.out LBa1.out).mono ?_
  rintro e wa2 ⟨va2, rfl, B, kt⟩
  obtain ⟨La2, hL⟩ : ∃ L, L = La1 ++ (r_fil q.t) := ⟨_, rfl⟩
  rw [← hL] at B
  have HLa2 : Hid (La2 = La1 ++ (r_fil q.t)) := hL
  clear hL
  have Ha2 : Hid (Bf W0 wa2 va2 La2) := B
  have Ka2 : Hid (KT w wa2) := (Ka1.out).trans kt
  have X0_a2 : Hid (BxA wa2 (w.heap.size) 36 #[.int .i64 q.F, .int .i64 q.T, .int .i64 q.t.k, .int .i64 q.t.d, .slice b0 m0 k0, .int .i64 q.t.lo, .int .i64 q.t.hi, .slice b1 m1 k1, .int .i64 q.g, .slice aos n1 k2, .slice aoa n2 k3, .int .i64 q.G, .int .i64 q.R]) := by apply hide; simpa using (X0_a1.out).kt (kt) (by decide)
  clear B kt
  have q0_0 : wa2.cell? ⟨w.heap.size, 0, none⟩ = some (.int .i64 q.F) := X0_a2.out.cell 0 _ rfl
  have q0_1 : wa2.cell? ⟨w.heap.size, 1, none⟩ = some (.int .i64 q.T) := X0_a2.out.cell 1 _ rfl
  have q0_2 : wa2.cell? ⟨w.heap.size, 2, none⟩ = some (.int .i64 q.t.k) := X0_a2.out.cell 2 _ rfl
  have q0_3 : wa2.cell? ⟨w.heap.size, 3, none⟩ = some (.int .i64 q.t.d) := X0_a2.out.cell 3 _ rfl
  have q0_4 : wa2.cell? ⟨w.heap.size, 4, none⟩ = some (.slice b0 m0 k0) := X0_a2.out.cell 4 _ rfl
  have q0_5 : wa2.cell? ⟨w.heap.size, 5, none⟩ = some (.int .i64 q.t.lo) := X0_a2.out.cell 5 _ rfl
  have q0_6 : wa2.cell? ⟨w.heap.size, 6, none⟩ = some (.int .i64 q.t.hi) := X0_a2.out.cell 6 _ rfl
  have q0_7 : wa2.cell? ⟨w.heap.size, 7, none⟩ = some (.slice b1 m1 k1) := X0_a2.out.cell 7 _ rfl
  have q0_8 : wa2.cell? ⟨w.heap.size, 8, none⟩ = some (.int .i64 q.g) := X0_a2.out.cell 8 _ rfl
  have q0_9 : wa2.cell? ⟨w.heap.size, 9, none⟩ = some (.slice aos n1 k2) := X0_a2.out.cell 9 _ rfl
  have q0_10 : wa2.cell? ⟨w.heap.size, 10, none⟩ = some (.slice aoa n2 k3) := X0_a2.out.cell 10 _ rfl
  have q0_11 : wa2.cell? ⟨w.heap.size, 11, none⟩ = some (.int .i64 q.G) := X0_a2.out.cell 11 _ rfl
  have q0_12 : wa2.cell? ⟨w.heap.size, 12, none⟩ = some (.int .i64 q.R) := X0_a2.out.cell 12 _ rfl
  go_wp2_with fail
  clear q0_0 q0_1 q0_2 q0_3 q0_4 q0_5 q0_6 q0_7 q0_8 q0_9 q0_10 q0_11 q0_12
  clear LBa1 Ha1 Ka1 X0_a1
  have LBa2 : Hid (La2.length + (ei (q.g)).length ≤ 140737488355328) := (by have e := HN.out; simp only [r_query, List.length_append, ← HLNS.out, ← HLNA.out] at e; have e0 := congrArg List.length HLa1.out; simp only [List.length_append] at e0; have e1 := congrArg List.length HLa2.out; simp only [List.length_append] at e1; apply hide; omega)
  refine (refint_any wa2 (q.g) hgg.1 hgg.2).mono ?_
  rintro e waa2 ⟨vaa2, rfl, oa, ba⟩
  change Owns waa2 _ vaa2 (ei (q.g)) at oa
  obtain ⟨saa2, sca2, rfl, sn, sr⟩ := own_src oa
  have HBa2 : Hid (Bf W0 waa2 va2 La2) := Bf.up Ha2.out ba
  have KAa2 : Hid (KT w waa2) := (Ka2.out).trans (KT.of_below ba)
  have XA0_a2 : Hid (BxA waa2 (w.heap.size) 36 #[.int .i64 q.F, .int .i64 q.T, .int .i64 q.t.k, .int .i64 q.t.d, .slice b0 m0 k0, .int .i64 q.t.lo, .int .i64 q.t.hi, .slice b1 m1 k1, .int .i64 q.g, .slice aos n1 k2, .slice aoa n2 k3, .int .i64 q.G, .int .i64 q.R]) := by apply hide; simpa using (X0_a2.out).kt (KT.of_below ba) (by decide)
  have SNa2 : Hid (saa2 = none → (ei (q.g)).length = 0 ∧ sca2 = 0) := sn
  have SRa2 : Hid _ := sr
  clear oa ba sn sr
  go_wp2_with (first | (at_builtin; refine wp_app rfl _ _ rfl W0.heap.size _ La2 (ei (q.g)) rfl HBa2.out.o _ _ _ rfl rfl SNa2.out SRa2.out LBa2.out HBa2.out.b.size ?_; intro va3 wa3 o g; obtain ⟨B, kt⟩ := HBa2.out.app o g; obtain ⟨La3, hL⟩ : ∃ L, L = La2 ++ (ei (q.g)) := ⟨_, rfl⟩; rw [← hL] at B; have HLa3 : Hid (La3 = La2 ++ (ei (q.g))) := hL; clear hL; have Ha3 : Hid (Bf W0 wa3 va3 La3) := B; have Ka3 : Hid (KT w wa3) := KAa2.out.trans kt; have X0_a3 : Hid (BxA wa3 (w.heap.size) 36 #[.int .i64 q.F, .int .i64 q.T, .int .i64 q.t.k, .int .i64 q.t.d, .slice b0 m0 k0, .int .i64 q.t.lo, .int .i64 q.t.hi, .slice b1 m1 k1, .int .i64 q.g, .slice aos n1 k2, .slice aoa n2 k3, .int .i64 q.G, .int .i64 q.R]) := XA0_a2.out.kt kt (by decide); clear o g B kt; have q0_0 : wa3.cell? ⟨w.heap.size, 0, none⟩ = some (.int .i64 q.F) := X0_a3.out.cell 0 _ rfl; have q0_1 : wa3.cell? ⟨w.heap.size, 1, none⟩ = some (.int .i64 q.T) := X0_a3.out.cell 1 _ rfl; have q0_2 : wa3.cell? ⟨w.heap.size, 2, none⟩ = some (.int .i64 q.t.k) := X0_a3.out.cell 2 _ rfl; have q0_3 : wa3.cell? ⟨w.heap.size, 3, none⟩ = some (.int .i64 q.t.d) := X0_a3.out.cell 3 _ rfl; have q0_4 : wa3.cell? ⟨w.heap.size, 4, none⟩ = some (.slice b0 m0 k0) := X0_a3.out.cell 4 _ rfl; have q0_5 : wa3.cell? ⟨w.heap.size, 5, none⟩ = some (.int .i64 q.t.lo) := X0_a3.out.cell 5 _ rfl; have q0_6 : wa3.cell? ⟨w.heap.size, 6, none⟩ = some (.int .i64 q.t.hi) := X0_a3.out.cell 6 _ rfl; have q0_7 : wa3.cell? ⟨w.heap.size, 7, none⟩ = some (.slice b1 m1 k1) := X0_a3.out.cell 7 _ rfl; have q0_8 : wa3.cell? ⟨w.heap.size, 8, none⟩ = some (.int .i64 q.g) := X0_a3.out.cell 8 _ rfl; have q0_9 : wa3.cell? ⟨w.heap.size, 9, none⟩ = some (.slice aos n1 k2) := X0_a3.out.cell 9 _ rfl; have q0_10 : wa3.cell? ⟨w.heap.size, 10, none⟩ = some (.slice aoa n2 k3) := X0_a3.out.cell 10 _ rfl; have q0_11 : wa3.cell? ⟨w.heap.size, 11, none⟩ = some (.int .i64 q.G) := X0_a3.out.cell 11 _ rfl; have q0_12 : wa3.cell? ⟨w.heap.size, 12, none⟩ = some (.int .i64 q.R) := X0_a3.out.cell 12 _ rfl))
  clear q0_0 q0_1 q0_2 q0_3 q0_4 q0_5 q0_6 q0_7 q0_8 q0_9 q0_10 q0_11 q0_12
  clear LBa2 HBa2 KAa2 SNa2 SRa2 XA0_a2 Ha2 Ka2 X0_a2
  have LBa3 : Hid (La3.length + (Num.uv (n1)).length ≤ 140737488355328) := (by have e := HN.out; simp only [r_query, List.length_append, ← HLNS.out, ← HLNA.out] at e; have e0 := congrArg List.length HLa1.out; simp only [List.length_append] at e0; have e1 := congrArg List.length HLa2.out; simp only [List.length_append] at e1; have e2 := congrArg List.length HLa3.out; simp only [List.length_append] at e2; apply hide; omega)
  refine (refuint_any wa3 (n1) hnu1).mono ?_
  rintro e waa3 ⟨vaa3, rfl, oa, ba⟩
  change Owns waa3 _ vaa3 (Num.uv (n1)) at oa
  obtain ⟨saa3, sca3, rfl, sn, sr⟩ := own_src oa
  have HBa3 : Hid (Bf W0 waa3 va3 La3) := Bf.up Ha3.out ba
  have KAa3 : Hid (KT w waa3) := (Ka3.out).trans (KT.of_below ba)
  have XA0_a3 : Hid (BxA waa3 (w.heap.size) 36 #[.int .i64 q.F, .int .i64 q.T, .int .i64 q.t.k, .int .i64 q.t.d, .slice b0 m0 k0, .int .i64 q.t.lo, .int .i64 q.t.hi, .slice b1 m1 k1, .int .i64 q.g, .slice aos n1 k2, .slice aoa n2 k3, .int .i64 q.G, .int .i64 q.R]) := by apply hide; simpa using (X0_a3.out).kt (KT.of_below ba) (by decide)
  have SNa3 : Hid (saa3 = none → (Num.uv (n1)).length = 0 ∧ sca3 = 0) := sn
  have SRa3 : Hid _ := sr
  clear oa ba sn sr
  go_wp2_with (first | (at_builtin; refine wp_app rfl _ _ rfl W0.heap.size _ La3 (Num.uv (n1)) rfl HBa3.out.o _ _ _ rfl rfl SNa3.out SRa3.out LBa3.out HBa3.out.b.size ?_; intro va4 wa4 o g; obtain ⟨B, kt⟩ := HBa3.out.app o g; obtain ⟨La4, hL⟩ : ∃ L, L = La3 ++ (Num.uv (n1)) := ⟨_, rfl⟩; rw [← hL] at B; have HLa4 : Hid (La4 = La3 ++ (Num.uv (n1))) := hL; clear hL; have Ha4 : Hid (Bf W0 wa4 va4 La4) := B; have Ka4 : Hid (KT w wa4) := KAa3.out.trans kt; have X0_a4 : Hid (BxA wa4 (w.heap.size) 36 #[.int .i64 q.F, .int .i64 q.T, .int .i64 q.t.k, .int .i64 q.t.d, .slice b0 m0 k0, .int .i64 q.t.lo, .int .i64 q.t.hi, .slice b1 m1 k1, .int .i64 q.g, .slice aos n1 k2, .slice aoa n2 k3, .int .i64 q.G, .int .i64 q.R]) := XA0_a3.out.kt kt (by decide); clear o g B kt))
  clear LBa3 HBa3 KAa3 SNa3 SRa3 XA0_a3 Ha3 Ka3 X0_a3
  go_loopg [0, 5] n1 (fun kx vb vi wr => ∃ (i : Nat) (x : Value), vi = .int .i64 (i : Int) ∧ x = vb ∧ i ≤ n1 ∧ n1 - i ≤ kx ∧ Hid (Bf W0 wr x (La4 ++ (q.ss.take i).flatMap r_set)) ∧ Hid (KT w wr) ∧ Hid (BxA wr (w.heap.size) 36 #[.int .i64 q.F, .int .i64 q.T, .int .i64 q.t.k, .int .i64 q.t.d, .slice b0 m0 k0, .int .i64 q.t.lo, .int .i64 q.t.hi, .slice b1 m1 k1, .int .i64 q.g, .slice aos n1 k2, .slice aoa n2 k3, .int .i64 q.G, .int .i64 q.R]))
  case atStart => exact ⟨0, _, rfl, rfl, by omega, Nat.le_refl _, by apply hide; simpa using Ha4.out, Ka4.out, X0_a4.out⟩
  case round =>
    obtain ⟨i, vrb, rfl, rfl, hib, hkxb, HRb, KRb, XR0b⟩ := hrel
    have q0_0 : wr.cell? ⟨w.heap.size, 0, none⟩ = some (.int .i64 q.F) := XR0b.out.cell 0 _ rfl
    have q0_1 : wr.cell? ⟨w.heap.size, 1, none⟩ = some (.int .i64 q.T) := XR0b.out.cell 1 _ rfl
    have q0_2 : wr.cell? ⟨w.heap.size, 2, none⟩ = some (.int .i64 q.t.k) := XR0b.out.cell 2 _ rfl
    have q0_3 : wr.cell? ⟨w.heap.size, 3, none⟩ = some (.int .i64 q.t.d) := XR0b.out.cell 3 _ rfl
    have q0_4 : wr.cell? ⟨w.heap.size, 4, none⟩ = some (.slice b0 m0 k0) := XR0b.out.cell 4 _ rfl
    have q0_5 : wr.cell? ⟨w.heap.size, 5, none⟩ = some (.int .i64 q.t.lo) := XR0b.out.cell 5 _ rfl
    have q0_6 : wr.cell? ⟨w.heap.size, 6, none⟩ = some (.int .i64 q.t.hi) := XR0b.out.cell 6 _ rfl
    have q0_7 : wr.cell? ⟨w.heap.size, 7, none⟩ = some (.slice b1 m1 k1) := XR0b.out.cell 7 _ rfl
    have q0_8 : wr.cell? ⟨w.heap.size, 8, none⟩ = some (.int .i64 q.g) := XR0b.out.cell 8 _ rfl
    have q0_9 : wr.cell? ⟨w.heap.size, 9, none⟩ = some (.slice aos n1 k2) := XR0b.out.cell 9 _ rfl
    have q0_10 : wr.cell? ⟨w.heap.size, 10, none⟩ = some (.slice aoa n2 k3) := XR0b.out.cell 10 _ rfl
    have q0_11 : wr.cell? ⟨w.heap.size, 11, none⟩ = some (.int .i64 q.G) := XR0b.out.cell 11 _ rfl
    have q0_12 : wr.cell? ⟨w.heap.size, 12, none⟩ = some (.int .i64 q.R) := XR0b.out.cell 12 _ rfl
    by_cases hltb : i < n1
    · have hltz : (i : Int) < (n1 : Int) := by omega
      have hilb : i < q.ss.length := by have := HLNS.out; omega
      obtain ⟨bbb, offb, rfl, hblb, hcb⟩ := lst_cell (k := 1) (f := cl_set) (by decide) (fun _ => rfl) HLSS.out (by omega)
      obtain ⟨Lrb, hLrb⟩ : ∃ L, L = La4 ++ (q.ss.take i).flatMap r_set := ⟨_, rfl⟩
      have HLrb : Hid (Lrb = La4 ++ (q.ss.take i).flatMap r_set) := hLrb
      have HRRb : Hid (Bf W0 wr vrb Lrb) := by apply hide; rw [hLrb]; exact HRb.out
      have hlen := rl_len r_set q.ss i hilb
      have htk := rl_take r_set q.ss i hilb
      obtain ⟨yb, hy⟩ : ∃ y, q.ss[i] = y := ⟨_, rfl⟩
      have hymb : yb ∈ q.ss := by rw [← hy]; exact List.getElem_mem hilb
      have Eb0 : Hid (W0.cell? ⟨bbb, offb + i, none⟩ = some (yb.1)) := by apply hide; have := hcb i hilb 0 (yb.1) (by omega) (by rw [hy]; rfl); simpa using this
      rw [hy] at hlen htk
      have HTKb : Hid _ := htk
      have HTb : Hid (Lrb.length + (r_set yb).length ≤ 1099511627776) := by apply hide; have e := HN.out; simp only [r_query, List.length_append, ← HLNS.out, ← HLNA.out] at e; have e0 := congrArg List.length HLa1.out; simp only [List.length_append] at e0; have e1 := congrArg List.length HLa2.out; simp only [List.length_append] at e1; have e2 := congrArg List.length HLa3.out; simp only [List.length_append] at e2; have e3 := congrArg List.length HLa4.out; simp only [List.length_append] at e3; rw [hLrb, List.length_append]; omega
      clear hlen htk hcb hLrb hy
      obtain ⟨yl, yz⟩ := HZ.out yb hymb
      obtain ⟨aoy, ycap, ye, yh1, yh2⟩ := yl.sl
      unfold maxLen at yh2
      obtain ⟨n3, hn3⟩ : ∃ n, n = yb.2.length := ⟨_, rfl⟩
      rw [← hn3] at ye yh1
      rw [ye] at yl Eb0
      have HLSY : Hid (Lst 1 cl_int W0 (.slice aoy n3 ycap) yb.2) := yl
      have HLNY : Hid (n3 = yb.2.length) := hn3
      have HYZ : Aside (Zs yb.2) := yz
      have hnu3 : n3 < 18446744073709551616 := by omega
      clear hn3 ye yl yz
      have rb0 : wr.cell? ⟨bbb, offb + i, none⟩ = some (.slice aoy n3 ycap) := cup HRRb.out.b Eb0.out
      go_wp2_with fail
      clear q0_0 q0_1 q0_2 q0_3 q0_4 q0_5 q0_6 q0_7 q0_8 q0_9 q0_10 q0_11 q0_12 rb0
      have LBb0 : Hid (Lrb.length + (Num.uv (n3)).length ≤ 140737488355328) := (by have e := HTb.out; simp only [r_set, List.length_append] at e; simp only [← HLNY.out] at e; apply hide; omega)
      refine (refuint_any wr (n3) hnu3).mono ?_
      rintro e wab0 ⟨vab0, rfl, oa, ba⟩
      change Owns wab0 _ vab0 (Num.uv (n3)) at oa
      obtain ⟨sab0, scb0, rfl, sn, sr⟩ := own_src oa
      have HBb0 : Hid (Bf W0 wab0 vrb Lrb) := Bf.up HRRb.out ba
      have KAb0 : Hid (KT w wab0) := (KRb.out).trans (KT.of_below ba)
      have XA0_b0 : Hid (BxA wab0 (w.heap.size) 36 #[.int .i64 q.F, .int .i64 q.T, .int .i64 q.t.k, .int .i64 q.t.d, .slice b0 m0 k0, .int .i64 q.t.lo, .int .i64 q.t.hi, .slice b1 m1 k1, .int .i64 q.g, .slice (some ⟨bbb, offb, none⟩) n1 k2, .slice aoa n2 k3, .int .i64 q.G, .int .i64 q.R]) := by apply hide; simpa using (XR0b.out).kt (KT.of_below ba) (by decide)
      have SNb0 : Hid (sab0 = none → (Num.uv (n3)).length = 0 ∧ scb0 = 0) := sn
      have SRb0 : Hid _ := sr
      clear oa ba sn sr
      go_wp2_with (first | (at_builtin; refine wp_app rfl _ _ rfl W0.heap.size _ Lrb (Num.uv (n3)) rfl HBb0.out.o _ _ _ rfl rfl SNb0.out SRb0.out LBb0.out HBb0.out.b.size ?_; intro vb1 wb1 o g; obtain ⟨B, kt⟩ := HBb0.out.app o g; obtain ⟨Lb1, hL⟩ : ∃ L, L = Lrb ++ (Num.uv (n3)) := ⟨_, rfl⟩; rw [← hL] at B; have HLb1 : Hid (Lb1 = Lrb ++ (Num.uv (n3))) := hL; clear hL; have Hb1 : Hid (Bf W0 wb1 vb1 Lb1) := B; have Kb1 : Hid (KT w wb1) := KAb0.out.trans kt; have X0_b1 : Hid (BxA wb1 (w.heap.size) 36 #[.int .i64 q.F, .int .i64 q.T, .int .i64 q.t.k, .int .i64 q.t.d, .slice b0 m0 k0, .int .i64 q.t.lo, .int .i64 q.t.hi, .slice b1 m1 k1, .int .i64 q.g, .slice (some ⟨bbb, offb, none⟩) n1 k2, .slice aoa n2 k3, .int .i64 q.G, .int .i64 q.R]) := XA0_b0.out.kt kt (by decide); clear o g B kt))
      clear LBb0 HBb0 KAb0 SNb0 SRb0 XA0_b0
      go_loopg [0, 6] n3 (fun kx vb vi wr => ∃ (k : Nat) (x : Value), vi = .int .i64 (k : Int) ∧ x = vb ∧ k ≤ n3 ∧ n3 - k ≤ kx ∧ Hid (Bf W0 wr x (Lb1 ++ (yb.2.take k).flatMap ei)) ∧ Hid (KT w wr) ∧ Hid (BxA wr (w.heap.size) 36 #[.int .i64 q.F, .int .i64 q.T, .int .i64 q.t.k, .int .i64 q.t.d, .slice b0 m0 k0, .int .i64 q.t.lo, .int .i64 q.t.hi, .slice b1 m1 k1, .int .i64 q.g, .slice (some ⟨bbb, offb, none⟩) n1 k2, .slice aoa n2 k3, .int .i64 q.G, .int .i64 q.R]))
      case atStart => exact ⟨0, _, rfl, rfl, by omega, Nat.le_refl _, by apply hide; simpa using Hb1.out, Kb1.out, X0_b1.out⟩
      case round =>
        obtain ⟨k, vrc, rfl, rfl, hic, hkxc, HRc, KRc, XR0c⟩ := hrel
        have q0_0 : wr.cell? ⟨w.heap.size, 0, none⟩ = some (.int .i64 q.F) := XR0c.out.cell 0 _ rfl
        have q0_1 : wr.cell? ⟨w.heap.size, 1, none⟩ = some (.int .i64 q.T) := XR0c.out.cell 1 _ rfl
        have q0_2 : wr.cell? ⟨w.heap.size, 2, none⟩ = some (.int .i64 q.t.k) := XR0c.out.cell 2 _ rfl
        have q0_3 : wr.cell? ⟨w.heap.size, 3, none⟩ = some (.int .i64 q.t.d) := XR0c.out.cell 3 _ rfl
        have q0_4 : wr.cell? ⟨w.heap.size, 4, none⟩ = some (.slice b0 m0 k0) := XR0c.out.cell 4 _ rfl
        have q0_5 : wr.cell? ⟨w.heap.size, 5, none⟩ = some (.int .i64 q.t.lo) := XR0c.out.cell 5 _ rfl
        have q0_6 : wr.cell? ⟨w.heap.size, 6, none⟩ = some (.int .i64 q.t.hi) := XR0c.out.cell 6 _ rfl
        have q0_7 : wr.cell? ⟨w.heap.size, 7, none⟩ = some (.slice b1 m1 k1) := XR0c.out.cell 7 _ rfl
        have q0_8 : wr.cell? ⟨w.heap.size, 8, none⟩ = some (.int .i64 q.g) := XR0c.out.cell 8 _ rfl
        have q0_9 : wr.cell? ⟨w.heap.size, 9, none⟩ = some (.slice (some ⟨bbb, offb, none⟩) n1 k2) := XR0c.out.cell 9 _ rfl
        have q0_10 : wr.cell? ⟨w.heap.size, 10, none⟩ = some (.slice aoa n2 k3) := XR0c.out.cell 10 _ rfl
        have q0_11 : wr.cell? ⟨w.heap.size, 11, none⟩ = some (.int .i64 q.G) := XR0c.out.cell 11 _ rfl
        have q0_12 : wr.cell? ⟨w.heap.size, 12, none⟩ = some (.int .i64 q.R) := XR0c.out.cell 12 _ rfl
        have rb0 : wr.cell? ⟨bbb, offb + i, none⟩ = some (.slice aoy n3 ycap) := cup HRc.out.b Eb0.out
        by_cases hltc : k < n3
        · have hltz : (k : Int) < (n3 : Int) := by omega
          have hilc : k < yb.2.length := by have := HLNY.out; omega
          obtain ⟨bbc, offc, rfl, hblc, hcc⟩ := lst_cell (k := 1) (f := cl_int) (by decide) (fun _ => rfl) HLSY.out (by omega)
          obtain ⟨Lrc, hLrc⟩ : ∃ L, L = Lb1 ++ (yb.2.take k).flatMap ei := ⟨_, rfl⟩
          have HLrc : Hid (Lrc = Lb1 ++ (yb.2.take k).flatMap ei) := hLrc
          have HRRc : Hid (Bf W0 wr vrc Lrc) := by apply hide; rw [hLrc]; exact HRc.out
          have hlen := rl_len ei yb.2 k hilc
          have htk := rl_take ei yb.2 k hilc
          obtain ⟨yc, hy⟩ : ∃ y, yb.2[k] = y := ⟨_, rfl⟩
          have hymc : yc ∈ yb.2 := by rw [← hy]; exact List.getElem_mem hilc
          have Ec0 : Hid (W0.cell? ⟨bbc, offc + k, none⟩ = some (.int .i64 yc)) := by apply hide; have := hcc k hilc 0 (.int .i64 yc) (by omega) (by rw [hy]; rfl); simpa using this
          rw [hy] at hlen htk
          have HTKc : Hid _ := htk
          have HTc : Hid (Lrc.length + (ei yc).length ≤ 1099511627776) := by apply hide; have e := HTb.out; simp only [r_set, List.length_append, ← HLNY.out] at e; have e0 := congrArg List.length HLb1.out; simp only [List.length_append] at e0; rw [hLrc, List.length_append]; omega
          clear hlen htk hcc hLrc hy
          have rc0 : wr.cell? ⟨bbc, offc + k, none⟩ = some (.int .i64 yc) := cup HRRc.out.b Ec0.out
          go_wp2_with fail
          clear q0_0 q0_1 q0_2 q0_3 q0_4 q0_5 q0_6 q0_7 q0_8 q0_9 q0_10 q0_11 q0_12 rb0 rc0
          have LBc0 : Hid (Lrc.length + (ei (yc)).length ≤ 140737488355328) := (by have e := HTc.out; apply hide; omega)
          refine (refint_any wr (yc) (HYZ.out yc hymc).1 (HYZ.out yc hymc).2).mono ?_
          rintro e wac0 ⟨vac0, rfl, oa, ba⟩
          change Owns wac0 _ vac0 (ei (yc)) at oa
          obtain ⟨sac0, scc0, rfl, sn, sr⟩ := own_src oa
          have HBc0 : Hid (Bf W0 wac0 vrc Lrc) := Bf.up HRRc.out ba
          have KAc0 : Hid (KT w wac0) := (KRc.out).trans (KT.of_below ba)
          have XA0_c0 : Hid (BxA wac0 (w.heap.size) 36 #[.int .i64 q.F, .int .i64 q.T, .int .i64 q.t.k, .int .i64 q.t.d, .slice b0 m0 k0, .int .i64 q.t.lo, .int .i64 q.t.hi, .slice b1 m1 k1, .int .i64 q.g, .slice (some ⟨bbb, offb, none⟩) n1 k2, .slice aoa n2 k3, .int .i64 q.G, .int .i64 q.R]) := by apply hide; simpa using (XR0c.out).kt (KT.of_below ba) (by decide)
          have SNc0 : Hid (sac0 = none → (ei (yc)).length = 0 ∧ scc0 = 0) := sn
          have SRc0 : Hid _ := sr
          clear oa ba sn sr
          go_wp2_with (first | (at_builtin; refine wp_app rfl _ _ rfl W0.heap.size _ Lrc (ei (yc)) rfl HBc0.out.o _ _ _ rfl rfl SNc0.out SRc0.out LBc0.out HBc0.out.b.size ?_; intro vc1 wc1 o g; obtain ⟨B, kt⟩ := HBc0.out.app o g; obtain ⟨Lc1, hL⟩ : ∃ L, L = Lrc ++ (ei (yc)) := ⟨_, rfl⟩; rw [← hL] at B; have HLc1 : Hid (Lc1 = Lrc ++ (ei (yc))) := hL; clear hL; have Hc1 : Hid (Bf W0 wc1 vc1 Lc1) := B; have Kc1 : Hid (KT w wc1) := KAc0.out.trans kt; have X0_c1 : Hid (BxA wc1 (w.heap.size) 36 #[.int .i64 q.F, .int .i64 q.T, .int .i64 q.t.k, .int .i64 q.t.d, .slice b0 m0 k0, .int .i64 q.t.lo, .int .i64 q.t.hi, .slice b1 m1 k1, .int .i64 q.g, .slice (some ⟨bbb, offb, none⟩) n1 k2, .slice aoa n2 k3, .int .i64 q.G, .int .i64 q.R]) := XA0_c0.out.kt kt (by decide); clear o g B kt; have q0_0 : wc1.cell? ⟨w.heap.size, 0, none⟩ = some (.int .i64 q.F) := X0_c1.out.cell 0 _ rfl; have q0_1 : wc1.cell? ⟨w.heap.size, 1, none⟩ = some (.int .i64 q.T) := X0_c1.out.cell 1 _ rfl; have q0_2 : wc1.cell? ⟨w.heap.size, 2, none⟩ = some (.int .i64 q.t.k) := X0_c1.out.cell 2 _ rfl; have q0_3 : wc1.cell? ⟨w.heap.size, 3, none⟩ = some (.int .i64 q.t.d) := X0_c1.out.cell 3 _ rfl; have q0_4 : wc1.cell? ⟨w.heap.size, 4, none⟩ = some (.slice b0 m0 k0) := X0_c1.out.cell 4 _ rfl; have q0_5 : wc1.cell? ⟨w.heap.size, 5, none⟩ = some (.int .i64 q.t.lo) := X0_c1.out.cell 5 _ rfl; have q0_6 : wc1.cell? ⟨w.heap.size, 6, none⟩ = some (.int .i64 q.t.hi) := X0_c1.out.cell 6 _ rfl; have q0_7 : wc1.cell? ⟨w.heap.size, 7, none⟩ = some (.slice b1 m1 k1) := X0_c1.out.cell 7 _ rfl; have q0_8 : wc1.cell? ⟨w.heap.size, 8, none⟩ = some (.int .i64 q.g) := X0_c1.out.cell 8 _ rfl; have q0_9 : wc1.cell? ⟨w.heap.size, 9, none⟩ = some (.slice (some ⟨bbb, offb, none⟩) n1 k2) := X0_c1.out.cell 9 _ rfl; have q0_10 : wc1.cell? ⟨w.heap.size, 10, none⟩ = some (.slice aoa n2 k3) := X0_c1.out.cell 10 _ rfl; have q0_11 : wc1.cell? ⟨w.heap.size, 11, none⟩ = some (.int .i64 q.G) := X0_c1.out.cell 11 _ rfl; have q0_12 : wc1.cell? ⟨w.heap.size, 12, none⟩ = some (.int .i64 q.R) := X0_c1.out.cell 12 _ rfl; have rb0 : wc1.cell? ⟨bbb, offb + i, none⟩ = some (.slice (some ⟨bbc, offc, none⟩) n3 ycap) := cup Hc1.out.b Eb0.out; have rc0 : wc1.cell? ⟨bbc, offc + k, none⟩ = some (.int .i64 yc) := cup Hc1.out.b Ec0.out))
          clear q0_0 q0_1 q0_2 q0_3 q0_4 q0_5 q0_6 q0_7 q0_8 q0_9 q0_10 q0_11 q0_12 rb0 rc0
          clear LBc0 HBc0 KAc0 SNc0 SRc0 XA0_c0
          go_roundg (n3 - (k + 1))
          case measure => omega
          case rel => exact ⟨k + 1, _, by go_num, rfl, by omega, Nat.le_refl _, by apply hide; rw [HTKc.out, ← List.append_assoc, ← HLrc.out]; have e : Lc1 = Lrc ++ ei yc := (by rw [HLc1.out]); rw [← e]; exact Hc1.out, Kc1.out, X0_c1.out⟩
        · have hltz : ¬ (k : Int) < (n3 : Int) := by omega
          obtain ⟨LXc, hLX⟩ : ∃ L, L = Lb1 ++ yb.2.flatMap ei := ⟨_, rfl⟩
          have HLXc : Hid (LXc = Lb1 ++ yb.2.flatMap ei) := hLX
          have HRXc : Hid (Bf W0 wr vrc LXc) := by apply hide; rw [hLX]; have e := HRc.out; rwa [List.take_of_length_le (by have := HLNY.out; omega)] at e
          clear hLX
          go_wp2_with fail
          clear q0_0 q0_1 q0_2 q0_3 q0_4 q0_5 q0_6 q0_7 q0_8 q0_9 q0_10 q0_11 q0_12 rb0
          go_roundg (n1 - (i + 1))
          case measure => omega
          case rel => exact ⟨i + 1, _, by go_num, rfl, by omega, Nat.le_refl _, by apply hide; rw [HTKb.out, ← List.append_assoc, ← HLrb.out]; have e : LXc = Lrb ++ r_set yb := (by rw [HLXc.out, HLb1.out]; simp only [r_set, List.append_assoc, ← HLNY.out]); rw [← e]; exact HRXc.out, KRc.out, XR0c.out⟩
    · have hltz : ¬ (i : Int) < (n1 : Int) := by omega
      obtain ⟨LXb, hLX⟩ : ∃ L, L = La4 ++ q.ss.flatMap r_set := ⟨_, rfl⟩
      have HLXb : Hid (LXb = La4 ++ q.ss.flatMap r_set) := hLX
      have HRXb : Hid (Bf W0 wr vrb LXb) := by apply hide; rw [hLX]; have e := HRb.out; rwa [List.take_of_length_le (by have := HLNS.out; omega)] at e
      clear hLX
      go_wp2_with fail
      clear q0_0 q0_1 q0_2 q0_3 q0_4 q0_5 q0_6 q0_7 q0_8 q0_9 q0_10 q0_11 q0_12
      have LBd0 : Hid (LXb.length + (Num.uv (n2)).length ≤ 140737488355328) := (by have e := HN.out; simp only [r_query, List.length_append, ← HLNS.out, ← HLNA.out] at e; have e0 := congrArg List.length HLa1.out; simp only [List.length_append] at e0; have e1 := congrArg List.length HLa2.out; simp only [List.length_append] at e1; have e2 := congrArg List.length HLa3.out; simp only [List.length_append] at e2; have e3 := congrArg List.length HLa4.out; simp only [List.length_append] at e3; have e4 := congrArg List.length HLXb.out; simp only [List.length_append] at e4; apply hide; omega)
      refine (refuint_any wr (n2) hnu2).mono ?_
      rintro e wad0 ⟨vad0, rfl, oa, ba⟩
      change Owns wad0 _ vad0 (Num.uv (n2)) at oa
      obtain ⟨sad0, scd0, rfl, sn, sr⟩ := own_src oa
      have HBd0 : Hid (Bf W0 wad0 vrb LXb) := Bf.up HRXb.out ba
      have KAd0 : Hid (KT w wad0) := (KRb.out).trans (KT.of_below ba)
      have XA0_d0 : Hid (BxA wad0 (w.heap.size) 36 #[.int .i64 q.F, .int .i64 q.T, .int .i64 q.t.k, .int .i64 q.t.d, .slice b0 m0 k0, .int .i64 q.t.lo, .int .i64 q.t.hi, .slice b1 m1 k1, .int .i64 q.g, .slice aos n1 k2, .slice aoa n2 k3, .int .i64 q.G, .int .i64 q.R]) := by apply hide; simpa using (XR0b.out).kt (KT.of_below ba) (by decide)
      have SNd0 : Hid (sad0 = none → (Num.uv (n2)).length = 0 ∧ scd0 = 0) := sn
      have SRd0 : Hid _ := sr
      clear oa ba sn sr
      go_wp2_with (first | (at_builtin; refine wp_app rfl _ _ rfl W0.heap.size _ LXb (Num.uv (n2)) rfl HBd0.out.o _ _ _ rfl rfl SNd0.out SRd0.out LBd0.out HBd0.out.b.size ?_; intro vd1 wd1 o g; obtain ⟨B, kt⟩ := HBd0.out.app o g; obtain ⟨Ld1, hL⟩ : ∃ L, L = LXb ++ (Num.uv (n2)) := ⟨_, rfl⟩; rw [← hL] at B; have HLd1 : Hid (Ld1 = LXb ++ (Num.uv (n2))) := hL; clear hL; have Hd1 : Hid (Bf W0 wd1 vd1 Ld1) := B; have Kd1 : Hid (KT w wd1) := KAd0.out.trans kt; have X0_d1 : Hid (BxA wd1 (w.heap.size) 36 #[.int .i64 q.F, .int .i64 q.T, .int .i64 q.t.k, .int .i64 q.t.d, .slice b0 m0 k0, .int .i64 q.t.lo, .int .i64 q.t.hi, .slice b1 m1 k1, .int .i64 q.g, .slice aos n1 k2, .slice aoa n2 k3, .int .i64 q.G, .int .i64 q.R]) := XA0_d0.out.kt kt (by decide); clear o g B kt))
      clear LBd0 HBd0 KAd0 SNd0 SRd0 XA0_d0
      go_loopg [0, 7] n2 (fun kx vb vi wr => ∃ (i : Nat) (x : Value), vi = .int .i64 (i : Int) ∧ x = vb ∧ i ≤ n2 ∧ n2 - i ≤ kx ∧ Hid (Bf W0 wr x (Ld1 ++ (q.ag.take i).flatMap r_agg)) ∧ Hid (KT w wr) ∧ Hid (BxA wr (w.heap.size) 36 #[.int .i64 q.F, .int .i64 q.T, .int .i64 q.t.k, .int .i64 q.t.d, .slice b0 m0 k0, .int .i64 q.t.lo, .int .i64 q.t.hi, .slice b1 m1 k1, .int .i64 q.g, .slice aos n1 k2, .slice aoa n2 k3, .int .i64 q.G, .int .i64 q.R]))
      case atStart => exact ⟨0, _, rfl, rfl, by omega, Nat.le_refl _, by apply hide; simpa using Hd1.out, Kd1.out, X0_d1.out⟩
      case round =>
        obtain ⟨i, vre, rfl, rfl, hie, hkxe, HRe, KRe, XR0e⟩ := hrel
        have q0_0 : wr.cell? ⟨w.heap.size, 0, none⟩ = some (.int .i64 q.F) := XR0e.out.cell 0 _ rfl
        have q0_1 : wr.cell? ⟨w.heap.size, 1, none⟩ = some (.int .i64 q.T) := XR0e.out.cell 1 _ rfl
        have q0_2 : wr.cell? ⟨w.heap.size, 2, none⟩ = some (.int .i64 q.t.k) := XR0e.out.cell 2 _ rfl
        have q0_3 : wr.cell? ⟨w.heap.size, 3, none⟩ = some (.int .i64 q.t.d) := XR0e.out.cell 3 _ rfl
        have q0_4 : wr.cell? ⟨w.heap.size, 4, none⟩ = some (.slice b0 m0 k0) := XR0e.out.cell 4 _ rfl
        have q0_5 : wr.cell? ⟨w.heap.size, 5, none⟩ = some (.int .i64 q.t.lo) := XR0e.out.cell 5 _ rfl
        have q0_6 : wr.cell? ⟨w.heap.size, 6, none⟩ = some (.int .i64 q.t.hi) := XR0e.out.cell 6 _ rfl
        have q0_7 : wr.cell? ⟨w.heap.size, 7, none⟩ = some (.slice b1 m1 k1) := XR0e.out.cell 7 _ rfl
        have q0_8 : wr.cell? ⟨w.heap.size, 8, none⟩ = some (.int .i64 q.g) := XR0e.out.cell 8 _ rfl
        have q0_9 : wr.cell? ⟨w.heap.size, 9, none⟩ = some (.slice aos n1 k2) := XR0e.out.cell 9 _ rfl
        have q0_10 : wr.cell? ⟨w.heap.size, 10, none⟩ = some (.slice aoa n2 k3) := XR0e.out.cell 10 _ rfl
        have q0_11 : wr.cell? ⟨w.heap.size, 11, none⟩ = some (.int .i64 q.G) := XR0e.out.cell 11 _ rfl
        have q0_12 : wr.cell? ⟨w.heap.size, 12, none⟩ = some (.int .i64 q.R) := XR0e.out.cell 12 _ rfl
        by_cases hlte : i < n2
        · have hltz : (i : Int) < (n2 : Int) := by omega
          have hile : i < q.ag.length := by have := HLNA.out; omega
          obtain ⟨bbe, offe, rfl, hble, hce⟩ := lst_cell (k := 2) (f := cl_agg) (by decide) (fun _ => rfl) HLSA.out (by omega)
          obtain ⟨Lre, hLre⟩ : ∃ L, L = Ld1 ++ (q.ag.take i).flatMap r_agg := ⟨_, rfl⟩
          have HLre : Hid (Lre = Ld1 ++ (q.ag.take i).flatMap r_agg) := hLre
          have HRRe : Hid (Bf W0 wr vre Lre) := by apply hide; rw [hLre]; exact HRe.out
          have hlen := rl_len r_agg q.ag i hile
          have htk := rl_take r_agg q.ag i hile
          obtain ⟨ye, hy⟩ : ∃ y, q.ag[i] = y := ⟨_, rfl⟩
          have hyme : ye ∈ q.ag := by rw [← hy]; exact List.getElem_mem hile
          have Ee0 : Hid (W0.cell? ⟨bbe, offe + i * 2, none⟩ = some (.int .i64 ye.1)) := by apply hide; have := hce i hile 0 (.int .i64 ye.1) (by omega) (by rw [hy]; rfl); simpa [Nat.add_assoc] using this
          have Ee1 : Hid (W0.cell? ⟨bbe, offe + i * 2 + 1, none⟩ = some (.int .i64 ye.2)) := by apply hide; have := hce i hile 1 (.int .i64 ye.2) (by omega) (by rw [hy]; rfl); simpa [Nat.add_assoc] using this
          rw [hy] at hlen htk
          have HTKe : Hid _ := htk
          have HTe : Hid (Lre.length + (r_agg ye).length ≤ 1099511627776) := by apply hide; have e := HN.out; simp only [r_query, List.length_append, ← HLNS.out, ← HLNA.out] at e; have e0 := congrArg List.length HLa1.out; simp only [List.length_append] at e0; have e1 := congrArg List.length HLa2.out; simp only [List.length_append] at e1; have e2 := congrArg List.length HLa3.out; simp only [List.length_append] at e2; have e3 := congrArg List.length HLa4.out; simp only [List.length_append] at e3; have e4 := congrArg List.length HLXb.out; simp only [List.length_append] at e4; have e5 := congrArg List.length HLd1.out; simp only [List.length_append] at e5; rw [hLre, List.length_append]; omega
          clear hlen htk hce hLre hy
          have re0 : wr.cell? ⟨bbe, offe + i * 2, none⟩ = some (.int .i64 ye.1) := cup HRRe.out.b Ee0.out
          have re1 : wr.cell? ⟨bbe, offe + i * 2 + 1, none⟩ = some (.int .i64 ye.2) := cup HRRe.out.b Ee1.out
          go_wp2_with fail
          clear q0_0 q0_1 q0_2 q0_3 q0_4 q0_5 q0_6 q0_7 q0_8 q0_9 q0_10 q0_11 q0_12 re0 re1
          have LBe0 : Hid (Lre.length + (ei (ye.1)).length ≤ 140737488355328) := (by have e := HTe.out; simp only [r_agg, List.length_append] at e; apply hide; omega)
          refine (refint_any wr (ye.1) (HBG.out ye hyme).1.1 (HBG.out ye hyme).1.2).mono ?_
          rintro e wae0 ⟨vae0, rfl, oa, ba⟩
          change Owns wae0 _ vae0 (ei (ye.1)) at oa
          obtain ⟨sae0, sce0, rfl, sn, sr⟩ := own_src oa
          have HBe0 : Hid (Bf W0 wae0 vre Lre) := Bf.up HRRe.out ba
          have KAe0 : Hid (KT w wae0) := (KRe.out).trans (KT.of_below ba)
          have XA0_e0 : Hid (BxA wae0 (w.heap.size) 36 #[.int .i64 q.F, .int .i64 q.T, .int .i64 q.t.k, .int .i64 q.t.d, .slice b0 m0 k0, .int .i64 q.t.lo, .int .i64 q.t.hi, .slice b1 m1 k1, .int .i64 q.g, .slice aos n1 k2, .slice (some ⟨bbe, offe, none⟩) n2 k3, .int .i64 q.G, .int .i64 q.R]) := by apply hide; simpa using (XR0e.out).kt (KT.of_below ba) (by decide)
          have SNe0 : Hid (sae0 = none → (ei (ye.1)).length = 0 ∧ sce0 = 0) := sn
          have SRe0 : Hid _ := sr
          clear oa ba sn sr
          go_wp2_with (first | (at_builtin; refine wp_app rfl _ _ rfl W0.heap.size _ Lre (ei (ye.1)) rfl HBe0.out.o _ _ _ rfl rfl SNe0.out SRe0.out LBe0.out HBe0.out.b.size ?_; intro ve1 we1 o g; obtain ⟨B, kt⟩ := HBe0.out.app o g; obtain ⟨Le1, hL⟩ : ∃ L, L = Lre ++ (ei (ye.1)) := ⟨_, rfl⟩; rw [← hL] at B; have HLe1 : Hid (Le1 = Lre ++ (ei (ye.1))) := hL; clear hL; have He1 : Hid (Bf W0 we1 ve1 Le1) := B; have Ke1 : Hid (KT w we1) := KAe0.out.trans kt; have X0_e1 : Hid (BxA we1 (w.heap.size) 36 #[.int .i64 q.F, .int .i64 q.T, .int .i64 q.t.k, .int .i64 q.t.d, .slice b0 m0 k0, .int .i64 q.t.lo, .int .i64 q.t.hi, .slice b1 m1 k1, .int .i64 q.g, .slice aos n1 k2, .slice (some ⟨bbe, offe, none⟩) n2 k3, .int .i64 q.G, .int .i64 q.R]) := XA0_e0.out.kt kt (by decide); clear o g B kt; have q0_0 : we1.cell? ⟨w.heap.size, 0, none⟩ = some (.int .i64 q.F) := X0_e1.out.cell 0 _ rfl; have q0_1 : we1.cell? ⟨w.heap.size, 1, none⟩ = some (.int .i64 q.T) := X0_e1.out.cell 1 _ rfl; have q0_2 : we1.cell? ⟨w.heap.size, 2, none⟩ = some (.int .i64 q.t.k) := X0_e1.out.cell 2 _ rfl; have q0_3 : we1.cell? ⟨w.heap.size, 3, none⟩ = some (.int .i64 q.t.d) := X0_e1.out.cell 3 _ rfl; have q0_4 : we1.cell? ⟨w.heap.size, 4, none⟩ = some (.slice b0 m0 k0) := X0_e1.out.cell 4 _ rfl; have q0_5 : we1.cell? ⟨w.heap.size, 5, none⟩ = some (.int .i64 q.t.lo) := X0_e1.out.cell 5 _ rfl; have q0_6 : we1.cell? ⟨w.heap.size, 6, none⟩ = some (.int .i64 q.t.hi) := X0_e1.out.cell 6 _ rfl; have q0_7 : we1.cell? ⟨w.heap.size, 7, none⟩ = some (.slice b1 m1 k1) := X0_e1.out.cell 7 _ rfl; have q0_8 : we1.cell? ⟨w.heap.size, 8, none⟩ = some (.int .i64 q.g) := X0_e1.out.cell 8 _ rfl; have q0_9 : we1.cell? ⟨w.heap.size, 9, none⟩ = some (.slice aos n1 k2) := X0_e1.out.cell 9 _ rfl; have q0_10 : we1.cell? ⟨w.heap.size, 10, none⟩ = some (.slice (some ⟨bbe, offe, none⟩) n2 k3) := X0_e1.out.cell 10 _ rfl; have q0_11 : we1.cell? ⟨w.heap.size, 11, none⟩ = some (.int .i64 q.G) := X0_e1.out.cell 11 _ rfl; have q0_12 : we1.cell? ⟨w.heap.size, 12, none⟩ = some (.int .i64 q.R) := X0_e1.out.cell 12 _ rfl; have re0 : we1.cell? ⟨bbe, offe + i * 2, none⟩ = some (.int .i64 ye.1) := cup He1.out.b Ee0.out; have re1 : we1.cell? ⟨bbe, offe + i * 2 + 1, none⟩ = some (.int .i64 ye.2) := cup He1.out.b Ee1.out))
          clear q0_0 q0_1 q0_2 q0_3 q0_4 q0_5 q0_6 q0_7 q0_8 q0_9 q0_10 q0_11 q0_12 re0 re1
          clear LBe0 HBe0 KAe0 SNe0 SRe0 XA0_e0
          have LBe1 : Hid (Le1.length + (ei (ye.2)).length ≤ 140737488355328) := (by have e := HTe.out; simp only [r_agg, List.length_append] at e; have e0 := congrArg List.length HLe1.out; simp only [List.length_append] at e0; apply hide; omega)
          refine (refint_any we1 (ye.2) (HBG.out ye hyme).2.1 (HBG.out ye hyme).2.2).mono ?_
          rintro e wae1 ⟨vae1, rfl, oa, ba⟩
          change Owns wae1 _ vae1 (ei (ye.2)) at oa
          obtain ⟨sae1, sce1, rfl, sn, sr⟩ := own_src oa
          have HBe1 : Hid (Bf W0 wae1 ve1 Le1) := Bf.up He1.out ba
          have KAe1 : Hid (KT w wae1) := (Ke1.out).trans (KT.of_below ba)
          have XA0_e1 : Hid (BxA wae1 (w.heap.size) 36 #[.int .i64 q.F, .int .i64 q.T, .int .i64 q.t.k, .int .i64 q.t.d, .slice b0 m0 k0, .int .i64 q.t.lo, .int .i64 q.t.hi, .slice b1 m1 k1, .int .i64 q.g, .slice aos n1 k2, .slice (some ⟨bbe, offe, none⟩) n2 k3, .int .i64 q.G, .int .i64 q.R]) := by apply hide; simpa using (X0_e1.out).kt (KT.of_below ba) (by decide)
          have SNe1 : Hid (sae1 = none → (ei (ye.2)).length = 0 ∧ sce1 = 0) := sn
          have SRe1 : Hid _ := sr
          clear oa ba sn sr
          go_wp2_with (first | (at_builtin; refine wp_app rfl _ _ rfl W0.heap.size _ Le1 (ei (ye.2)) rfl HBe1.out.o _ _ _ rfl rfl SNe1.out SRe1.out LBe1.out HBe1.out.b.size ?_; intro ve2 we2 o g; obtain ⟨B, kt⟩ := HBe1.out.app o g; obtain ⟨Le2, hL⟩ : ∃ L, L = Le1 ++ (ei (ye.2)) := ⟨_, rfl⟩; rw [← hL] at B; have HLe2 : Hid (Le2 = Le1 ++ (ei (ye.2))) := hL; clear hL; have He2 : Hid (Bf W0 we2 ve2 Le2) := B; have Ke2 : Hid (KT w we2) := KAe1.out.trans kt; have X0_e2 : Hid (BxA we2 (w.heap.size) 36 #[.int .i64 q.F, .int .i64 q.T, .int .i64 q.t.k, .int .i64 q.t.d, .slice b0 m0 k0, .int .i64 q.t.lo, .int .i64 q.t.hi, .slice b1 m1 k1, .int .i64 q.g, .slice aos n1 k2, .slice (some ⟨bbe, offe, none⟩) n2 k3, .int .i64 q.G, .int .i64 q.R]) := XA0_e1.out.kt kt (by decide); clear o g B kt; have q0_0 : we2.cell? ⟨w.heap.size, 0, none⟩ = some (.int .i64 q.F) := X0_e2.out.cell 0 _ rfl; have q0_1 : we2.cell? ⟨w.heap.size, 1, none⟩ = some (.int .i64 q.T) := X0_e2.out.cell 1 _ rfl; have q0_2 : we2.cell? ⟨w.heap.size, 2, none⟩ = some (.int .i64 q.t.k) := X0_e2.out.cell 2 _ rfl; have q0_3 : we2.cell? ⟨w.heap.size, 3, none⟩ = some (.int .i64 q.t.d) := X0_e2.out.cell 3 _ rfl; have q0_4 : we2.cell? ⟨w.heap.size, 4, none⟩ = some (.slice b0 m0 k0) := X0_e2.out.cell 4 _ rfl; have q0_5 : we2.cell? ⟨w.heap.size, 5, none⟩ = some (.int .i64 q.t.lo) := X0_e2.out.cell 5 _ rfl; have q0_6 : we2.cell? ⟨w.heap.size, 6, none⟩ = some (.int .i64 q.t.hi) := X0_e2.out.cell 6 _ rfl; have q0_7 : we2.cell? ⟨w.heap.size, 7, none⟩ = some (.slice b1 m1 k1) := X0_e2.out.cell 7 _ rfl; have q0_8 : we2.cell? ⟨w.heap.size, 8, none⟩ = some (.int .i64 q.g) := X0_e2.out.cell 8 _ rfl; have q0_9 : we2.cell? ⟨w.heap.size, 9, none⟩ = some (.slice aos n1 k2) := X0_e2.out.cell 9 _ rfl; have q0_10 : we2.cell? ⟨w.heap.size, 10, none⟩ = some (.slice (some ⟨bbe, offe, none⟩) n2 k3) := X0_e2.out.cell 10 _ rfl; have q0_11 : we2.cell? ⟨w.heap.size, 11, none⟩ = some (.int .i64 q.G) := X0_e2.out.cell 11 _ rfl; have q0_12 : we2.cell? ⟨w.heap.size, 12, none⟩ = some (.int .i64 q.R) := X0_e2.out.cell 12 _ rfl; have re0 : we2.cell? ⟨bbe, offe + i * 2, none⟩ = some (.int .i64 ye.1) := cup He2.out.b Ee0.out; have re1 : we2.cell? ⟨bbe, offe + i * 2 + 1, none⟩ = some (.int .i64 ye.2) := cup He2.out.b Ee1.out))
          clear q0_0 q0_1 q0_2 q0_3 q0_4 q0_5 q0_6 q0_7 q0_8 q0_9 q0_10 q0_11 q0_12 re0 re1
          clear LBe1 HBe1 KAe1 SNe1 SRe1 XA0_e1 He1 Ke1 X0_e1
          go_roundg (n2 - (i + 1))
          case measure => omega
          case rel => exact ⟨i + 1, _, by go_num, rfl, by omega, Nat.le_refl _, by apply hide; rw [HTKe.out, ← List.append_assoc, ← HLre.out]; have e : Le2 = Lre ++ r_agg ye := (by rw [HLe2.out, HLe1.out]; simp only [r_agg, List.append_assoc]); rw [← e]; exact He2.out, Ke2.out, X0_e2.out⟩
        · have hltz : ¬ (i : Int) < (n2 : Int) := by omega
          obtain ⟨LXe, hLX⟩ : ∃ L, L = Ld1 ++ q.ag.flatMap r_agg := ⟨_, rfl⟩
          have HLXe : Hid (LXe = Ld1 ++ q.ag.flatMap r_agg) := hLX
          have HRXe : Hid (Bf W0 wr vre LXe) := by apply hide; rw [hLX]; have e := HRe.out; rwa [List.take_of_length_le (by have := HLNA.out; omega)] at e
          clear hLX
          go_wp2_with fail
          clear q0_0 q0_1 q0_2 q0_3 q0_4 q0_5 q0_6 q0_7 q0_8 q0_9 q0_10 q0_11 q0_12
          have LBf0 : Hid (LXe.length + (ei (q.G)).length ≤ 140737488355328) := (by have e := HN.out; simp only [r_query, List.length_append, ← HLNS.out, ← HLNA.out] at e; have e0 := congrArg List.length HLa1.out; simp only [List.length_append] at e0; have e1 := congrArg List.length HLa2.out; simp only [List.length_append] at e1; have e2 := congrArg List.length HLa3.out; simp only [List.length_append] at e2; have e3 := congrArg List.length HLa4.out; simp only [List.length_append] at e3; have e4 := congrArg List.length HLXb.out; simp only [List.length_append] at e4; have e5 := congrArg List.length HLd1.out; simp only [List.length_append] at e5; have e6 := congrArg List.length HLXe.out; simp only [List.length_append] at e6; apply hide; omega)
          refine (refint_any wr (q.G) hGG.1 hGG.2).mono ?_
          rintro e waf0 ⟨vaf0, rfl, oa, ba⟩
          change Owns waf0 _ vaf0 (ei (q.G)) at oa
          obtain ⟨saf0, scf0, rfl, sn, sr⟩ := own_src oa
          have HBf0 : Hid (Bf W0 waf0 vre LXe) := Bf.up HRXe.out ba
          have KAf0 : Hid (KT w waf0) := (KRe.out).trans (KT.of_below ba)
          have XA0_f0 : Hid (BxA waf0 (w.heap.size) 36 #[.int .i64 q.F, .int .i64 q.T, .int .i64 q.t.k, .int .i64 q.t.d, .slice b0 m0 k0, .int .i64 q.t.lo, .int .i64 q.t.hi, .slice b1 m1 k1, .int .i64 q.g, .slice aos n1 k2, .slice aoa n2 k3, .int .i64 q.G, .int .i64 q.R]) := by apply hide; simpa using (XR0e.out).kt (KT.of_below ba) (by decide)
          have SNf0 : Hid (saf0 = none → (ei (q.G)).length = 0 ∧ scf0 = 0) := sn
          have SRf0 : Hid _ := sr
          clear oa ba sn sr
          go_wp2_with (first | (at_builtin; refine wp_app rfl _ _ rfl W0.heap.size _ LXe (ei (q.G)) rfl HBf0.out.o _ _ _ rfl rfl SNf0.out SRf0.out LBf0.out HBf0.out.b.size ?_; intro vf1 wf1 o g; obtain ⟨B, kt⟩ := HBf0.out.app o g; obtain ⟨Lf1, hL⟩ : ∃ L, L = LXe ++ (ei (q.G)) := ⟨_, rfl⟩; rw [← hL] at B; have HLf1 : Hid (Lf1 = LXe ++ (ei (q.G))) := hL; clear hL; have Hf1 : Hid (Bf W0 wf1 vf1 Lf1) := B; have Kf1 : Hid (KT w wf1) := KAf0.out.trans kt; have X0_f1 : Hid (BxA wf1 (w.heap.size) 36 #[.int .i64 q.F, .int .i64 q.T, .int .i64 q.t.k, .int .i64 q.t.d, .slice b0 m0 k0, .int .i64 q.t.lo, .int .i64 q.t.hi, .slice b1 m1 k1, .int .i64 q.g, .slice aos n1 k2, .slice aoa n2 k3, .int .i64 q.G, .int .i64 q.R]) := XA0_f0.out.kt kt (by decide); clear o g B kt; have q0_0 : wf1.cell? ⟨w.heap.size, 0, none⟩ = some (.int .i64 q.F) := X0_f1.out.cell 0 _ rfl; have q0_1 : wf1.cell? ⟨w.heap.size, 1, none⟩ = some (.int .i64 q.T) := X0_f1.out.cell 1 _ rfl; have q0_2 : wf1.cell? ⟨w.heap.size, 2, none⟩ = some (.int .i64 q.t.k) := X0_f1.out.cell 2 _ rfl; have q0_3 : wf1.cell? ⟨w.heap.size, 3, none⟩ = some (.int .i64 q.t.d) := X0_f1.out.cell 3 _ rfl; have q0_4 : wf1.cell? ⟨w.heap.size, 4, none⟩ = some (.slice b0 m0 k0) := X0_f1.out.cell 4 _ rfl; have q0_5 : wf1.cell? ⟨w.heap.size, 5, none⟩ = some (.int .i64 q.t.lo) := X0_f1.out.cell 5 _ rfl; have q0_6 : wf1.cell? ⟨w.heap.size, 6, none⟩ = some (.int .i64 q.t.hi) := X0_f1.out.cell 6 _ rfl; have q0_7 : wf1.cell? ⟨w.heap.size, 7, none⟩ = some (.slice b1 m1 k1) := X0_f1.out.cell 7 _ rfl; have q0_8 : wf1.cell? ⟨w.heap.size, 8, none⟩ = some (.int .i64 q.g) := X0_f1.out.cell 8 _ rfl; have q0_9 : wf1.cell? ⟨w.heap.size, 9, none⟩ = some (.slice aos n1 k2) := X0_f1.out.cell 9 _ rfl; have q0_10 : wf1.cell? ⟨w.heap.size, 10, none⟩ = some (.slice aoa n2 k3) := X0_f1.out.cell 10 _ rfl; have q0_11 : wf1.cell? ⟨w.heap.size, 11, none⟩ = some (.int .i64 q.G) := X0_f1.out.cell 11 _ rfl; have q0_12 : wf1.cell? ⟨w.heap.size, 12, none⟩ = some (.int .i64 q.R) := X0_f1.out.cell 12 _ rfl))
          clear q0_0 q0_1 q0_2 q0_3 q0_4 q0_5 q0_6 q0_7 q0_8 q0_9 q0_10 q0_11 q0_12
          clear LBf0 HBf0 KAf0 SNf0 SRf0 XA0_f0
          have LBf1 : Hid (Lf1.length + (ei (q.R)).length ≤ 140737488355328) := (by have e := HN.out; simp only [r_query, List.length_append, ← HLNS.out, ← HLNA.out] at e; have e0 := congrArg List.length HLa1.out; simp only [List.length_append] at e0; have e1 := congrArg List.length HLa2.out; simp only [List.length_append] at e1; have e2 := congrArg List.length HLa3.out; simp only [List.length_append] at e2; have e3 := congrArg List.length HLa4.out; simp only [List.length_append] at e3; have e4 := congrArg List.length HLXb.out; simp only [List.length_append] at e4; have e5 := congrArg List.length HLd1.out; simp only [List.length_append] at e5; have e6 := congrArg List.length HLXe.out; simp only [List.length_append] at e6; have e0 := congrArg List.length HLf1.out; simp only [List.length_append] at e0; apply hide; omega)
          refine (refint_any wf1 (q.R) hRR.1 hRR.2).mono ?_
          rintro e waf1 ⟨vaf1, rfl, oa, ba⟩
          change Owns waf1 _ vaf1 (ei (q.R)) at oa
          obtain ⟨saf1, scf1, rfl, sn, sr⟩ := own_src oa
          have HBf1 : Hid (Bf W0 waf1 vf1 Lf1) := Bf.up Hf1.out ba
          have KAf1 : Hid (KT w waf1) := (Kf1.out).trans (KT.of_below ba)
          have XA0_f1 : Hid (BxA waf1 (w.heap.size) 36 #[.int .i64 q.F, .int .i64 q.T, .int .i64 q.t.k, .int .i64 q.t.d, .slice b0 m0 k0, .int .i64 q.t.lo, .int .i64 q.t.hi, .slice b1 m1 k1, .int .i64 q.g, .slice aos n1 k2, .slice aoa n2 k3, .int .i64 q.G, .int .i64 q.R]) := by apply hide; simpa using (X0_f1.out).kt (KT.of_below ba) (by decide)
          have SNf1 : Hid (saf1 = none → (ei (q.R)).length = 0 ∧ scf1 = 0) := sn
          have SRf1 : Hid _ := sr
          clear oa ba sn sr
          go_wp2_with (first | (at_builtin; refine wp_app rfl _ _ rfl W0.heap.size _ Lf1 (ei (q.R)) rfl HBf1.out.o _ _ _ rfl rfl SNf1.out SRf1.out LBf1.out HBf1.out.b.size ?_; intro vf2 wf2 o g; obtain ⟨B, kt⟩ := HBf1.out.app o g; obtain ⟨Lf2, hL⟩ : ∃ L, L = Lf1 ++ (ei (q.R)) := ⟨_, rfl⟩; rw [← hL] at B; have HLf2 : Hid (Lf2 = Lf1 ++ (ei (q.R))) := hL; clear hL; have Hf2 : Hid (Bf W0 wf2 vf2 Lf2) := B; have Kf2 : Hid (KT w wf2) := KAf1.out.trans kt; have X0_f2 : Hid (BxA wf2 (w.heap.size) 36 #[.int .i64 q.F, .int .i64 q.T, .int .i64 q.t.k, .int .i64 q.t.d, .slice b0 m0 k0, .int .i64 q.t.lo, .int .i64 q.t.hi, .slice b1 m1 k1, .int .i64 q.g, .slice aos n1 k2, .slice aoa n2 k3, .int .i64 q.G, .int .i64 q.R]) := XA0_f1.out.kt kt (by decide); clear o g B kt))
          clear LBf1 HBf1 KAf1 SNf1 SRf1 XA0_f1 Hf1 Kf1 X0_f1
          go_ret
          refine ⟨_, rfl, ?_, Kf2.out⟩
          have e : Lf2 = l ++ r_query q := by rw [HLf2.out, HLf1.out, HLXe.out, HLd1.out, HLXb.out, HLa4.out, HLa3.out, HLa2.out, HLa1.out]; simp only [r_query, ← HLNS.out, ← HLNA.out, List.append_assoc]
          rw [← e]
          exact Hf2.out
end Go.Proofs.Ytpdlioidiobbbaa
