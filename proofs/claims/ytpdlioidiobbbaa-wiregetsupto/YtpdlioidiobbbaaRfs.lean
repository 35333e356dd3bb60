/- The reference's Put: spans, segments, texts, filters. -/
import Derived.Test.YtpdlioidiobbbaaWms
import Derived.Test.YtpdlioidiobbbaaRefNums
namespace Go.Proofs.Ytpdlioidiobbbaa
open Go.RowKit

theorem KT.of_below {w w' : World} (h : Below w.heap.size w w') : KT w w' := ⟨h.size, fun i hi _ => h.block i hi⟩
theorem BxA.kt {w w' : World} {g : Nat} {t : TypeId} {cs : Array Value} (h : BxA w g t cs) (hk : KT w w') (ht : t ≠ 5) : BxA w' g t cs := by
  unfold BxA at h ⊢
  rw [hk.2 g (Array.getElem?_eq_some_iff.1 h).1 (fun c fr e => ht (by rw [h] at e; simp at e; exact e.2.1)), h]
theorem cup {w w' : World} {a : Addr} {v : Value} (b : Below w.heap.size w w') (h : w.cell? a = some v) : w'.cell? a = some v := by
  rw [b.cell (World.block_lt_of_cell? _ _ h)]; exact h
/-- A row of bytes that grows, since W0. -/
structure Bf (W0 w : World) (v : Value) (l : Bs) : Prop where
  b : Below W0.heap.size W0 w
  o : Owns w W0.heap.size v l
theorem Bf.up {W0 w w' : World} {v : Value} {l : Bs} (h : Bf W0 w v l) (hb : Below w.heap.size w w') : Bf W0 w' v l := ⟨h.b.trans (hb.mono h.b.size), h.o.below hb⟩
theorem Bf.alloc {W0 w : World} {v : Value} {l : Bs} (h : Bf W0 w v l) (o : Obj) : Bf W0 (w.alloc o) v l := h.up (Fi.Grows.alloc w o).below
theorem Bf.app {W0 w w' : World} {v v' : Value} {l m : Bs} (h : Bf W0 w v l) (o : Owns w' W0.heap.size v' (l ++ m)) (g : w.grownBy w' v.ownBlock) : Bf W0 w' v' (l ++ m) ∧ KT w w' :=
  ⟨⟨grown_below h.b h.b.size h.o g, o⟩, KT.of_grown h.o g⟩
/-- It is answered, with so many bytes more. -/
def Adds (W0 w : World) (l : Bs) (e : Ending) (w' : World) : Prop := ∃ v', e = .returned v' ∧ Bf W0 w' v' l ∧ KT w w'
theorem own_src {w : World} {base : Nat} {v : Value} {l : Bs} (h : Owns w base v l) : ∃ a c, v = .slice a l.length c ∧ (a = none → l.length = 0 ∧ c = 0) ∧ ∀ ad, a = .some ad → ∀ j u, (bv l)[j]? = .some u → w.cell? (ad.add j) = .some u := by
  obtain ⟨a, c, rfl⟩ := h.shape l.length rfl
  obtain ⟨_, h1, h2⟩ := Reads.src h.reads (Below.refl _ _)
  exact ⟨a, c, rfl, h1, h2⟩
theorem lst_cell {α : Type} {k : Nat} {f : α → List Value} {w : World} {ao : Option Addr} {n cap : Nat} {l : List α} (hk0 : 0 < k) (hk : ∀ x, (f x).length = k) (h : Lst k f w (.slice ao n cap) l) (h0 : 0 < l.length) :
    ∃ b off, ao = some ⟨b, off, none⟩ ∧ b < w.heap.size ∧ ∀ i (hi : i < l.length) c u, c < k → (f l[i])[c]? = some u → w.cell? ⟨b, off + (i * k + c), none⟩ = some u := by
  obtain ⟨b, off, e, hc⟩ := Lst.at hk0 hk h h0
  refine ⟨b, off, e, ?_, hc⟩
  have h2 := hc 0 h0 0 ((f l[0])[0]'(by rw [hk]; exact hk0)) hk0 (List.getElem?_eq_getElem _)
  exact World.block_lt_of_cell? _ _ h2
theorem one_src (w : World) (c : UInt8) : ∀ ad, (some ⟨w.heap.size, 0, none⟩ : Option Addr) = .some ad → ∀ j u, (bv [c])[j]? = .some u → (w.alloc (.cells #[.int .u8 (c.toNat : Int)] 5)).cell? (ad.add j) = .some u := by
  rintro ad ⟨rfl⟩ j u hj
  match j, hj with
  | 0, hj =>
    simp [bv] at hj
    subst hj
    simp [Addr.add]
theorem ei_len (k : Int) : (ei k).length ≤ 10 := Num.uv_length _
theorem byte_len (c : UInt8) : [c].length ≤ 1 := by simp
/-- A list's bytes. -/
def rl {α : Type} (f : α → Bs) (l : List α) : Bs := Num.uv l.length ++ l.flatMap f
theorem rl_take {α : Type} (f : α → Bs) (l : List α) (i : Nat) (hi : i < l.length) : (l.take (i + 1)).flatMap f = (l.take i).flatMap f ++ f l[i] := by
  rw [List.take_succ_eq_append_getElem hi, List.flatMap_append]
  simp
theorem rl_len {α : Type} (f : α → Bs) (l : List α) (i : Nat) (hi : i < l.length) : ((l.take i).flatMap f).length + (f l[i]).length ≤ (l.flatMap f).length := by
  have h : l.flatMap f = (l.take (i + 1)).flatMap f ++ (l.drop (i + 1)).flatMap f := by rw [← List.flatMap_append, List.take_append_drop]
  rw [h, rl_take f l i hi, List.length_append, List.length_append]
  omega
def r_span (F T : Int) : Bs := ei F ++ ei T
set_option maxRecDepth 100000 in
set_option maxHeartbeats 3200000 in
theorem rspan (W0 w : World) (v : Value) (l : Bs) (F T : Int) (h1 : In64 F) (h2 : In64 T) (h : Bf W0 w v l) (hN : l.length + (r_span F T).length ≤ 1099511627776) :
    Calls Try.prog 34 #[v, .agg #[.int .i64 F, .int .i64 T]] w (Adds W0 w (l ++ r_span F T)) := by
  have HN : Hid (l.length + (r_span F T).length ≤ 1099511627776) := hN
  have HH : Hid (Bf W0 w v l) := h
  clear hN h
  go_enter Try.func34, Try.ntmps34
  go_wp2_with fail
  have LB0 : Hid (l.length + (ei (F)).length ≤ 140737488355328) := (by have e := HN.out; simp only [r_span, List.length_append] at e; apply hide; omega)
  refine (refint_any _ (F) h1.1 h1.2).mono ?_
  rintro e wa0 ⟨va0, rfl, oa, ba⟩
  change Owns wa0 _ va0 (ei (F)) at oa
  obtain ⟨sa0, sc0, rfl, sn, sr⟩ := own_src oa
  have HB0 : Hid (Bf W0 wa0 v l) := Bf.up (HH.out.alloc _) ba
  have KA0 : Hid (KT w wa0) := ((KT.refl w).trans (KT.alloc _ _)).trans (KT.of_below ba)
  have XA0_0 : Hid (BxA wa0 (w.heap.size) 29 #[.int .i64 F, .int .i64 T]) := by apply hide; simpa using ((BxA.new _ 29 #[.int .i64 F, .int .i64 T])).kt (KT.of_below ba) (by decide)
  have SN0 : Hid (sa0 = none → (ei (F)).length = 0 ∧ sc0 = 0) := sn
  have SR0 : Hid _ := sr
  clear oa ba sn sr
  go_wp2_with (first | (at_builtin; refine wp_app rfl _ _ rfl W0.heap.size _ l (ei (F)) rfl HB0.out.o _ _ _ rfl rfl SN0.out SR0.out LB0.out HB0.out.b.size ?_; intro v1 w1 o g; obtain ⟨B, kt⟩ := HB0.out.app o g; obtain ⟨L1, hL⟩ : ∃ L, L = l ++ (ei (F)) := ⟨_, rfl⟩; rw [← hL] at B; have HL1 : Hid (L1 = l ++ (ei (F))) := hL; clear hL; have H1 : Hid (Bf W0 w1 v1 L1) := B; have K1 : Hid (KT w w1) := KA0.out.trans kt; have X0_1 : Hid (BxA w1 (w.heap.size) 29 #[.int .i64 F, .int .i64 T]) := XA0_0.out.kt kt (by decide); clear o g B kt; have q0_0 : w1.cell? ⟨w.heap.size, 0, none⟩ = some (.int .i64 F) := X0_1.out.cell 0 _ rfl; have q0_1 : w1.cell? ⟨w.heap.size, 1, none⟩ = some (.int .i64 T) := X0_1.out.cell 1 _ rfl))
  clear q0_0 q0_1
  clear LB0 HB0 KA0 SN0 SR0 XA0_0
  have LB1 : Hid (L1.length + (ei (T)).length ≤ 140737488355328) := (by have e := HN.out; simp only [r_span, List.length_append] at e; have e0 := congrArg List.length HL1.out; simp only [List.length_append] at e0; apply hide; omega)
  refine (refint_any w1 (T) h2.1 h2.2).mono ?_
  rintro e wa1 ⟨va1, rfl, oa, ba⟩
  change Owns wa1 _ va1 (ei (T)) at oa
  obtain ⟨sa1, sc1, rfl, sn, sr⟩ := own_src oa
  have HB1 : Hid (Bf W0 wa1 v1 L1) := Bf.up H1.out ba
  have KA1 : Hid (KT w wa1) := (K1.out).trans (KT.of_below ba)
  have XA0_1 : Hid (BxA wa1 (w.heap.size) 29 #[.int .i64 F, .int .i64 T]) := by apply hide; simpa using (X0_1.out).kt (KT.of_below ba) (by decide)
  have SN1 : Hid (sa1 = none → (ei (T)).length = 0 ∧ sc1 = 0) := sn
  have SR1 : Hid _ := sr
  clear oa ba sn sr
  go_wp2_with (first | (at_builtin; refine wp_app rfl _ _ rfl W0.heap.size _ L1 (ei (T)) rfl HB1.out.o _ _ _ rfl rfl SN1.out SR1.out LB1.out HB1.out.b.size ?_; intro v2 w2 o g; obtain ⟨B, kt⟩ := HB1.out.app o g; obtain ⟨L2, hL⟩ : ∃ L, L = L1 ++ (ei (T)) := ⟨_, rfl⟩; rw [← hL] at B; have HL2 : Hid (L2 = L1 ++ (ei (T))) := hL; clear hL; have H2 : Hid (Bf W0 w2 v2 L2) := B; have K2 : Hid (KT w w2) := KA1.out.trans kt; have X0_2 : Hid (BxA w2 (w.heap.size) 29 #[.int .i64 F, .int .i64 T]) := XA0_1.out.kt kt (by decide); clear o g B kt))
  clear LB1 HB1 KA1 SN1 SR1 XA0_1 H1 K1 X0_1
  go_ret
  refine ⟨_, rfl, ?_, K2.out⟩
  have e : L2 = l ++ r_span F T := by rw [HL2.out, HL1.out]; simp only [r_span, List.append_assoc]
  rw [← e]
  exact H2.out
def r_seg (x : Sg) : Bs := r_span x.F x.T ++ (ei x.V ++ (ei x.P ++ ei x.C))
set_option maxRecDepth 100000 in
set_option maxHeartbeats 3200000 in
theorem rseg (W0 w : World) (v : Value) (l : Bs) (x : Sg) (hx : x.In) (h : Bf W0 w v l) (hN : l.length + (r_seg x).length ≤ 1099511627776) :
    Calls Try.prog 33 #[v, .agg #[.int .i64 x.F, .int .i64 x.T, .int .i64 x.V, .int .i64 x.P, .int .i64 x.C]] w (Adds W0 w (l ++ r_seg x)) := by
  have HN : Hid (l.length + (r_seg x).length ≤ 1099511627776) := hN
  have HH : Hid (Bf W0 w v l) := h
  clear hN h
  go_enter Try.func33, Try.ntmps33
  go_wp2_with fail
  have LB0 : Hid (l.length + (r_span x.F x.T).length ≤ 1099511627776) := (by have e := HN.out; simp only [r_seg, List.length_append] at e; apply hide; omega)
  refine (rspan W0 _ v l x.F x.T hx.1 hx.2.1 (HH.out.alloc _) LB0.out).mono ?_
  rintro e w1 ⟨v1, rfl, B, kt⟩
  obtain ⟨L1, hL⟩ : ∃ L, L = l ++ (r_span x.F x.T) := ⟨_, rfl⟩
  rw [← hL] at B
  have HL1 : Hid (L1 = l ++ (r_span x.F x.T)) := hL
  clear hL
  have H1 : Hid (Bf W0 w1 v1 L1) := B
  have K1 : Hid (KT w w1) := ((KT.refl w).trans (KT.alloc _ _)).trans kt
  have X0_1 : Hid (BxA w1 (w.heap.size) 38 #[.int .i64 x.F, .int .i64 x.T, .int .i64 x.V, .int .i64 x.P, .int .i64 x.C]) := by apply hide; simpa using ((BxA.new _ 38 #[.int .i64 x.F, .int .i64 x.T, .int .i64 x.V, .int .i64 x.P, .int .i64 x.C])).kt (kt) (by decide)
  clear B kt
  have q0_0 : w1.cell? ⟨w.heap.size, 0, none⟩ = some (.int .i64 x.F) := X0_1.out.cell 0 _ rfl
  have q0_1 : w1.cell? ⟨w.heap.size, 1, none⟩ = some (.int .i64 x.T) := X0_1.out.cell 1 _ rfl
  have q0_2 : w1.cell? ⟨w.heap.size, 2, none⟩ = some (.int .i64 x.V) := X0_1.out.cell 2 _ rfl
  have q0_3 : w1.cell? ⟨w.heap.size, 3, none⟩ = some (.int .i64 x.P) := X0_1.out.cell 3 _ rfl
  have q0_4 : w1.cell? ⟨w.heap.size, 4, none⟩ = some (.int .i64 x.C) := X0_1.out.cell 4 _ rfl
  go_wp2_with fail
  clear q0_0 q0_1 q0_2 q0_3 q0_4
  clear LB0
  have LB1 : Hid (L1.length + (ei (x.V)).length ≤ 140737488355328) := (by have e := HN.out; simp only [r_seg, List.length_append] at e; have e0 := congrArg List.length HL1.out; simp only [List.length_append] at e0; apply hide; omega)
  refine (refint_any w1 (x.V) hx.2.2.1.1 hx.2.2.1.2).mono ?_
  rintro e wa1 ⟨va1, rfl, oa, ba⟩
  change Owns wa1 _ va1 (ei (x.V)) at oa
  obtain ⟨sa1, sc1, rfl, sn, sr⟩ := own_src oa
  have HB1 : Hid (Bf W0 wa1 v1 L1) := Bf.up H1.out ba
  have KA1 : Hid (KT w wa1) := (K1.out).trans (KT.of_below ba)
  have XA0_1 : Hid (BxA wa1 (w.heap.size) 38 #[.int .i64 x.F, .int .i64 x.T, .int .i64 x.V, .int .i64 x.P, .int .i64 x.C]) := by apply hide; simpa using (X0_1.out).kt (KT.of_below ba) (by decide)
  have SN1 : Hid (sa1 = none → (ei (x.V)).length = 0 ∧ sc1 = 0) := sn
  have SR1 : Hid _ := sr
  clear oa ba sn sr
  go_wp2_with (first | (at_builtin; refine wp_app rfl _ _ rfl W0.heap.size _ L1 (ei (x.V)) rfl HB1.out.o _ _ _ rfl rfl SN1.out SR1.out LB1.out HB1.out.b.size ?_; intro v2 w2 o g; obtain ⟨B, kt⟩ := HB1.out.app o g; obtain ⟨L2, hL⟩ : ∃ L, L = L1 ++ (ei (x.V)) := ⟨_, rfl⟩; rw [← hL] at B; have HL2 : Hid (L2 = L1 ++ (ei (x.V))) := hL; clear hL; have H2 : Hid (Bf W0 w2 v2 L2) := B; have K2 : Hid (KT w w2) := KA1.out.trans kt; have X0_2 : Hid (BxA w2 (w.heap.size) 38 #[.int .i64 x.F, .int .i64 x.T, .int .i64 x.V, .int .i64 x.P, .int .i64 x.C]) := XA0_1.out.kt kt (by decide); clear o g B kt; have q0_0 : w2.cell? ⟨w.heap.size, 0, none⟩ = some (.int .i64 x.F) := X0_2.out.cell 0 _ rfl; have q0_1 : w2.cell? ⟨w.heap.size, 1, none⟩ = some (.int .i64 x.T) := X0_2.out.cell 1 _ rfl; have q0_2 : w2.cell? ⟨w.heap.size, 2, none⟩ = some (.int .i64 x.V) := X0_2.out.cell 2 _ rfl; have q0_3 : w2.cell? ⟨w.heap.size, 3, none⟩ = some (.int .i64 x.P) := X0_2.out.cell 3 _ rfl; have q0_4 : w2.cell? ⟨w.heap.size, 4, none⟩ = some (.int .i64 x.C) := X0_2.out.cell 4 _ rfl))
  clear q0_0 q0_1 q0_2 q0_3 q0_4
  clear LB1 HB1 KA1 SN1 SR1 XA0_1 H1 K1 X0_1
  have LB2 : Hid (L2.length + (ei (x.P)).length ≤ 140737488355328) := (by have e := HN.out; simp only [r_seg, List.length_append] at e; have e0 := congrArg List.length HL1.out; simp only [List.length_append] at e0; have e1 := congrArg List.length HL2.out; simp only [List.length_append] at e1; apply hide; omega)
  refine (refint_any w2 (x.P) hx.2.2.2.1.1 hx.2.2.2.1.2).mono ?_
  rintro e wa2 ⟨va2, rfl, oa, ba⟩
  change Owns wa2 _ va2 (ei (x.P)) at oa
  obtain ⟨sa2, sc2, rfl, sn, sr⟩ := own_src oa
  have HB2 : Hid (Bf W0 wa2 v2 L2) := Bf.up H2.out ba
  have KA2 : Hid (KT w wa2) := (K2.out).trans (KT.of_below ba)
  have XA0_2 : Hid (BxA wa2 (w.heap.size) 38 #[.int .i64 x.F, .int .i64 x.T, .int .i64 x.V, .int .i64 x.P, .int .i64 x.C]) := by apply hide; simpa using (X0_2.out).kt (KT.of_below ba) (by decide)
  have SN2 : Hid (sa2 = none → (ei (x.P)).length = 0 ∧ sc2 = 0) := sn
  have SR2 : Hid _ := sr
  clear oa ba sn sr
  go_wp2_with (first | (at_builtin; refine wp_app rfl _ _ rfl W0.heap.size _ L2 (ei (x.P)) rfl HB2.out.o _ _ _ rfl rfl SN2.out SR2.out LB2.out HB2.out.b.size ?_; intro v3 w3 o g; obtain ⟨B, kt⟩ := HB2.out.app o g; obtain ⟨L3, hL⟩ : ∃ L, L = L2 ++ (ei (x.P)) := ⟨_, rfl⟩; rw [← hL] at B; have HL3 : Hid (L3 = L2 ++ (ei (x.P))) := hL; clear hL; have H3 : Hid (Bf W0 w3 v3 L3) := B; have K3 : Hid (KT w w3) := KA2.out.trans kt; have X0_3 : Hid (BxA w3 (w.heap.size) 38 #[.int .i64 x.F, .int .i64 x.T, .int .i64 x.V, .int .i64 x.P, .int .i64 x.C]) := XA0_2.out.kt kt (by decide); clear o g B kt; have q0_0 : w3.cell? ⟨w.heap.size, 0, none⟩ = some (.int .i64 x.F) := X0_3.out.cell 0 _ rfl; have q0_1 : w3.cell? ⟨w.heap.size, 1, none⟩ = some (.int .i64 x.T) := X0_3.out.cell 1 _ rfl; have q0_2 : w3.cell? ⟨w.heap.size, 2, none⟩ = some (.int .i64 x.V) := X0_3.out.cell 2 _ rfl; have q0_3 : w3.cell? ⟨w.heap.size, 3, none⟩ = some (.int .i64 x.P) := X0_3.out.cell 3 _ rfl; have q0_4 : w3.cell? ⟨w.heap.size, 4, none⟩ = some (.int .i64 x.C) := X0_3.out.cell 4 _ rfl))
  clear q0_0 q0_1 q0_2 q0_3 q0_4
  clear LB2 HB2 KA2 SN2 SR2 XA0_2 H2 K2 X0_2
  have LB3 : Hid (L3.length + (ei (x.C)).length ≤ 140737488355328) := (by have e := HN.out; simp only [r_seg, List.length_append] at e; have e0 := congrArg List.length HL1.out; simp only [List.length_append] at e0; have e1 := congrArg List.length HL2.out; simp only [List.length_append] at e1; have e2 := congrArg List.length HL3.out; simp only [List.length_append] at e2; apply hide; omega)
  refine (refint_any w3 (x.C) hx.2.2.2.2.1 hx.2.2.2.2.2).mono ?_
  rintro e wa3 ⟨va3, rfl, oa, ba⟩
  change Owns wa3 _ va3 (ei (x.C)) at oa
  obtain ⟨sa3, sc3, rfl, sn, sr⟩ := own_src oa
  have HB3 : Hid (Bf W0 wa3 v3 L3) := Bf.up H3.out ba
  have KA3 : Hid (KT w wa3) := (K3.out).trans (KT.of_below ba)
  have XA0_3 : Hid (BxA wa3 (w.heap.size) 38 #[.int .i64 x.F, .int .i64 x.T, .int .i64 x.V, .int .i64 x.P, .int .i64 x.C]) := by apply hide; simpa using (X0_3.out).kt (KT.of_below ba) (by decide)
  have SN3 : Hid (sa3 = none → (ei (x.C)).length = 0 ∧ sc3 = 0) := sn
  have SR3 : Hid _ := sr
  clear oa ba sn sr
  go_wp2_with (first | (at_builtin; refine wp_app rfl _ _ rfl W0.heap.size _ L3 (ei (x.C)) rfl HB3.out.o _ _ _ rfl rfl SN3.out SR3.out LB3.out HB3.out.b.size ?_; intro v4 w4 o g; obtain ⟨B, kt⟩ := HB3.out.app o g; obtain ⟨L4, hL⟩ : ∃ L, L = L3 ++ (ei (x.C)) := ⟨_, rfl⟩; rw [← hL] at B; have HL4 : Hid (L4 = L3 ++ (ei (x.C))) := hL; clear hL; have H4 : Hid (Bf W0 w4 v4 L4) := B; have K4 : Hid (KT w w4) := KA3.out.trans kt; have X0_4 : Hid (BxA w4 (w.heap.size) 38 #[.int .i64 x.F, .int .i64 x.T, .int .i64 x.V, .int .i64 x.P, .int .i64 x.C]) := XA0_3.out.kt kt (by decide); clear o g B kt))
  clear LB3 HB3 KA3 SN3 SR3 XA0_3 H3 K3 X0_3
  go_ret
  refine ⟨_, rfl, ?_, K4.out⟩
  have e : L4 = l ++ r_seg x := by rw [HL4.out, HL3.out, HL2.out, HL1.out]; simp only [r_seg, List.append_assoc]
  rw [← e]
  exact H4.out
theorem rtext (w : World) (t : Fi.Str) (ht : t.length ≤ 140737488351232) :
    Calls Try.prog 91 #[.string ⟨t.toArray⟩] w fun e w' => ∃ v', e = .returned v' ∧ Owns w' w.heap.size v' (et t) ∧ Below w.heap.size w w' := by
  have h := reftext_any w ⟨t.toArray⟩ (by rw [Fi.str_size]; exact ht)
  rw [Fi.str_size] at h
  exact h
def r_txt (ts : List Fi.Str) : Bs := rl et ts
set_option maxRecDepth 100000 in
set_option maxHeartbeats 3200000 in
theorem rtxt (W0 w : World) (v : Value) (l : Bs) (tv : Value) (ts : List Fi.Str) (hr : Lst 1 cl_str W0 tv ts) (ht : Txs ts) (h : Bf W0 w v l) (hN : l.length + (r_txt ts).length ≤ 1099511627776) :
    Calls Try.prog 31 #[v, tv] w (Adds W0 w (l ++ r_txt ts)) := by
  obtain ⟨ao, cap, rfl, hc1, hc2⟩ := hr.sl
  unfold maxLen at hc2
  obtain ⟨n, hn⟩ : ∃ n, n = ts.length := ⟨_, rfl⟩
  rw [← hn] at hr hc1 ⊢
  have HLN : Hid (n = ts.length) := hn
  have HLS : Hid (Lst 1 cl_str W0 (.slice ao n cap) ts) := hr
  have hnu : n < 18446744073709551616 := by omega
  clear hn hr
  have HN : Hid (l.length + (r_txt ts).length ≤ 1099511627776) := hN
  have HH : Hid (Bf W0 w v l) := h
  clear hN h
  go_enter Try.func31, Try.ntmps31
  go_wp2_with fail
  have LBa0 : Hid (l.length + (Num.uv (n)).length ≤ 140737488355328) := (by have e := HN.out; simp only [r_txt, rl, List.length_append, ← HLN.out] at e; apply hide; omega)
  refine (refuint_any _ (n) hnu).mono ?_
  rintro e waa0 ⟨vaa0, rfl, oa, ba⟩
  change Owns waa0 _ vaa0 (Num.uv (n)) at oa
  obtain ⟨saa0, sca0, rfl, sn, sr⟩ := own_src oa
  have HBa0 : Hid (Bf W0 waa0 v l) := Bf.up HH.out ba
  have KAa0 : Hid (KT w waa0) := (KT.refl w).trans (KT.of_below ba)
  have SNa0 : Hid (saa0 = none → (Num.uv (n)).length = 0 ∧ sca0 = 0) := sn
  have SRa0 : Hid _ := sr
  clear oa ba sn sr
  go_wp2_with (first | (at_builtin; refine wp_app rfl _ _ rfl W0.heap.size _ l (Num.uv (n)) rfl HBa0.out.o _ _ _ rfl rfl SNa0.out SRa0.out LBa0.out HBa0.out.b.size ?_; intro va1 wa1 o g; obtain ⟨B, kt⟩ := HBa0.out.app o g; obtain ⟨La1, hL⟩ : ∃ L, L = l ++ (Num.uv (n)) := ⟨_, rfl⟩; rw [← hL] at B; have HLa1 : Hid (La1 = l ++ (Num.uv (n))) := hL; clear hL; have Ha1 : Hid (Bf W0 wa1 va1 La1) := B; have Ka1 : Hid (KT w wa1) := KAa0.out.trans kt; clear o g B kt))
  clear LBa0 HBa0 KAa0 SNa0 SRa0
  go_loopg [0, 5] n (fun kx vb vi wr => ∃ (i : Nat) (x : Value), vi = .int .i64 (i : Int) ∧ x = vb ∧ i ≤ n ∧ n - i ≤ kx ∧ Hid (Bf W0 wr x (La1 ++ (ts.take i).flatMap et)) ∧ Hid (KT w wr))
  case atStart => exact ⟨0, _, rfl, rfl, by omega, Nat.le_refl _, by apply hide; simpa using Ha1.out, Ka1.out⟩
  case round =>
    obtain ⟨i, vrb, rfl, rfl, hib, hkxb, HRb, KRb⟩ := hrel
    by_cases hltb : i < n
    · have hltz : (i : Int) < (n : Int) := by omega
      have hilb : i < ts.length := by have := HLN.out; omega
      obtain ⟨bbb, offb, rfl, hblb, hcb⟩ := lst_cell (k := 1) (f := cl_str) (by decide) (fun _ => rfl) HLS.out (by omega)
      obtain ⟨Lrb, hLrb⟩ : ∃ L, L = La1 ++ (ts.take i).flatMap et := ⟨_, rfl⟩
      have HLrb : Hid (Lrb = La1 ++ (ts.take i).flatMap et) := hLrb
      have HRRb : Hid (Bf W0 wr vrb Lrb) := by apply hide; rw [hLrb]; exact HRb.out
      have hlen := rl_len et ts i hilb
      have htk := rl_take et ts i hilb
      obtain ⟨yb, hy⟩ : ∃ y, ts[i] = y := ⟨_, rfl⟩
      have hymb : yb ∈ ts := by rw [← hy]; exact List.getElem_mem hilb
      have Eb0 : Hid (W0.cell? ⟨bbb, offb + i, none⟩ = some (.string ⟨yb.toArray⟩)) := by apply hide; have := hcb i hilb 0 (.string ⟨yb.toArray⟩) (by omega) (by rw [hy]; rfl); simpa using this
      rw [hy] at hlen htk
      have HTKb : Hid _ := htk
      have HTb : Hid (Lrb.length + (et yb).length ≤ 1099511627776) := by apply hide; have e := HN.out; have e1 := congrArg List.length HLa1.out; simp only [r_txt, rl, List.length_append, ← HLN.out] at e e1; rw [hLrb, List.length_append]; omega
      clear hlen htk hcb hLrb hy
      have rb0 : wr.cell? ⟨bbb, offb + i, none⟩ = some (.string ⟨yb.toArray⟩) := cup HRRb.out.b Eb0.out
      go_wp2_with fail
      clear rb0
      have LBb0 : Hid (Lrb.length + (et (yb)).length ≤ 140737488355328) := (by have e := HTb.out; apply hide; omega)
      refine (rtext wr (yb) (ht yb hymb)).mono ?_
      rintro e wab0 ⟨vab0, rfl, oa, ba⟩
      change Owns wab0 _ vab0 (et (yb)) at oa
      obtain ⟨sab0, scb0, rfl, sn, sr⟩ := own_src oa
      have HBb0 : Hid (Bf W0 wab0 vrb Lrb) := Bf.up HRRb.out ba
      have KAb0 : Hid (KT w wab0) := (KRb.out).trans (KT.of_below ba)
      have SNb0 : Hid (sab0 = none → (et (yb)).length = 0 ∧ scb0 = 0) := sn
      have SRb0 : Hid _ := sr
      clear oa ba sn sr
      go_wp2_with (first | (at_builtin; refine wp_app rfl _ _ rfl W0.heap.size _ Lrb (et (yb)) rfl HBb0.out.o _ _ _ rfl rfl SNb0.out SRb0.out LBb0.out HBb0.out.b.size ?_; intro vb1 wb1 o g; obtain ⟨B, kt⟩ := HBb0.out.app o g; obtain ⟨Lb1, hL⟩ : ∃ L, L = Lrb ++ (et (yb)) := ⟨_, rfl⟩; rw [← hL] at B; have HLb1 : Hid (Lb1 = Lrb ++ (et (yb))) := hL; clear hL; have Hb1 : Hid (Bf W0 wb1 vb1 Lb1) := B; have Kb1 : Hid (KT w wb1) := KAb0.out.trans kt; clear o g B kt; have rb0 : wb1.cell? ⟨bbb, offb + i, none⟩ = some (.string ⟨yb.toArray⟩) := cup Hb1.out.b Eb0.out))
      clear rb0
      clear LBb0 HBb0 KAb0 SNb0 SRb0
      go_roundg (n - (i + 1))
      case measure => omega
      case rel => exact ⟨i + 1, _, by go_num, rfl, by omega, Nat.le_refl _, by apply hide; rw [HTKb.out, ← List.append_assoc, ← HLrb.out]; have e : Lb1 = Lrb ++ et yb := (by rw [HLb1.out]); rw [← e]; exact Hb1.out, Kb1.out⟩
    · have hltz : ¬ (i : Int) < (n : Int) := by omega
      obtain ⟨LXb, hLX⟩ : ∃ L, L = La1 ++ ts.flatMap et := ⟨_, rfl⟩
      have HLXb : Hid (LXb = La1 ++ ts.flatMap et) := hLX
      have HRXb : Hid (Bf W0 wr vrb LXb) := by apply hide; rw [hLX]; have e := HRb.out; rwa [List.take_of_length_le (by have := HLN.out; omega)] at e
      clear hLX
      go_wp2_with fail
      go_ret
      refine ⟨_, rfl, ?_, KRb.out⟩
      have e : LXb = l ++ r_txt ts := by rw [HLXb.out, HLa1.out]; simp only [r_txt, rl, ← HLN.out, List.append_assoc]
      rw [← e]
      exact HRXb.out
theorem ks_lt {t c : Fi.Tr} (h : c ∈ t.ks) : SizeOf.sizeOf c < SizeOf.sizeOf t := by
  have h1 := List.sizeOf_lt_of_mem h
  cases t with
  | mk k d tv ts lo hi kv ks => simp [Fi.Tr.ks] at h1; simp; omega
def r_fil (t : Fi.Tr) : Bs := ei t.k ++ (ei t.d ++ (r_txt t.ts ++ (ei t.lo ++ (ei t.hi ++ (Num.uv t.ks.length ++ t.ks.attach.flatMap fun c => r_fil c.1)))))
termination_by SizeOf.sizeOf t
decreasing_by exact ks_lt c.2
theorem flat_attach {α : Type} (f : α → Bs) (l : List α) : (l.attach.flatMap fun c => f c.1) = l.flatMap f := by
  rw [← List.flatMap_map (f := fun c : { x // x ∈ l } => c.1) (g := f)]
  exact congrArg (List.flatMap f) (List.attach_map_subtype_val l)
theorem r_fil_eq (t : Fi.Tr) : r_fil t = ei t.k ++ (ei t.d ++ (r_txt t.ts ++ (ei t.lo ++ (ei t.hi ++ (Num.uv t.ks.length ++ t.ks.flatMap r_fil))))) := by
  rw [r_fil, flat_attach]
def RFil (N : Nat) : Prop := ∀ (t : Fi.Tr), SizeOf.sizeOf t < N → ∀ (W0 w : World) (v : Value) (l : Bs), t.Ok W0 → TrIn t → Bf W0 w v l → l.length + (r_fil t).length ≤ 1099511627776 →
  Calls Try.prog 92 #[v, .agg #[.int .i64 t.k, .int .i64 t.d, t.tv, .int .i64 t.lo, .int .i64 t.hi, t.kv]] w (Adds W0 w (l ++ r_fil t))
set_option maxRecDepth 100000 in
set_option maxHeartbeats 3200000 in
theorem rfil_step (W0 w : World) (v : Value) (l : Bs) (t : Fi.Tr) (N : Nat) (hI : RFil N) (hs : SizeOf.sizeOf t < N + 1) (ho : t.Ok W0) (hin : TrIn t) (h : Bf W0 w v l) (hN : l.length + (r_fil t).length ≤ 1099511627776) :
    Calls Try.prog 92 #[v, .agg #[.int .i64 t.k, .int .i64 t.d, t.tv, .int .i64 t.lo, .int .i64 t.hi, t.kv]] w (Adds W0 w (l ++ r_fil t)) := by
  obtain ⟨i1, i2, i3, i4, i5, i6⟩ := hin.out
  have hr := rds_lst ho.rt
  have hk := tr_lst ho
  have hok := ho.kid
  obtain ⟨ao0, cap0, e0, -, -⟩ := hr.sl
  obtain ⟨ao, cap, e1, hc1, hc2⟩ := hk.sl
  unfold maxLen at hc2
  obtain ⟨n, hn⟩ : ∃ n, n = t.ks.length := ⟨_, rfl⟩
  rw [← hn] at e1 hc1
  rw [e1] at hk
  rw [e0] at hr
  rw [e0, e1]
  have HLN : Hid (n = t.ks.length) := hn
  have HLS : Hid (Lst 6 cl_fil W0 (.slice ao n cap) t.ks) := hk
  have HTR : Hid (Lst 1 cl_str W0 (.slice ao0 t.ts.length cap0) t.ts) := hr
  have hnu : n < 18446744073709551616 := by omega
  have HI : Aside (RFil N) := hI
  have HOK : Aside (∀ c ∈ t.ks, c.Ok W0) := hok
  have HIN : Aside (∀ c ∈ t.ks, TrIn c) := i6
  have HSZ : Hid (SizeOf.sizeOf t < N + 1) := hs
  clear hn hr hk hI hok i6 hs e0 e1 ho hin
  have HN : Hid (l.length + (r_fil t).length ≤ 1099511627776) := hN
  have HH : Hid (Bf W0 w v l) := h
  clear hN h
  go_enter Try.func92, Try.ntmps92
  go_wp2_with fail
  have LBa0 : Hid (l.length + (ei (t.k)).length ≤ 140737488355328) := (by have e := HN.out; rw [r_fil_eq] at e; simp only [List.length_append, ← HLN.out] at e; apply hide; omega)
  refine (refint_any _ (t.k) i1.1 i1.2).mono ?_
  rintro e waa0 ⟨vaa0, rfl, oa, ba⟩
  change Owns waa0 _ vaa0 (ei (t.k)) at oa
  obtain ⟨saa0, sca0, rfl, sn, sr⟩ := own_src oa
  have HBa0 : Hid (Bf W0 waa0 v l) := Bf.up (HH.out.alloc _) ba
  have KAa0 : Hid (KT w waa0) := ((KT.refl w).trans (KT.alloc _ _)).trans (KT.of_below ba)
  have XA0_a0 : Hid (BxA waa0 (w.heap.size) 32 #[.int .i64 t.k, .int .i64 t.d, .slice ao0 t.ts.length cap0, .int .i64 t.lo, .int .i64 t.hi, .slice ao n cap]) := by apply hide; simpa using ((BxA.new _ 32 #[.int .i64 t.k, .int .i64 t.d, .slice ao0 t.ts.length cap0, .int .i64 t.lo, .int .i64 t.hi, .slice ao n cap])).kt (KT.of_below ba) (by decide)
  have SNa0 : Hid (saa0 = none → (ei (t.k)).length = 0 ∧ sca0 = 0) := sn
  have SRa0 : Hid _ := sr
  clear oa ba sn sr
  go_wp2_with (first | (at_builtin; refine wp_app rfl _ _ rfl W0.heap.size _ l (ei (t.k)) rfl HBa0.out.o _ _ _ rfl rfl SNa0.out SRa0.out LBa0.out HBa0.out.b.size ?_; intro va1 wa1 o g; obtain ⟨B, kt⟩ := HBa0.out.app o g; obtain ⟨La1, hL⟩ : ∃ L, L = l ++ (ei (t.k)) := ⟨_, rfl⟩; rw [← hL] at B; have HLa1 : Hid (La1 = l ++ (ei (t.k))) := hL; clear hL; have Ha1 : Hid (Bf W0 wa1 va1 La1) := B; have Ka1 : Hid (KT w wa1) := KAa0.out.trans kt; have X0_a1 : Hid (BxA wa1 (w.heap.size) 32 #[.int .i64 t.k, .int .i64 t.d, .slice ao0 t.ts.length cap0, .int .i64 t.lo, .int .i64 t.hi, .slice ao n cap]) := XA0_a0.out.kt kt (by decide); clear o g B kt; have q0_0 : wa1.cell? ⟨w.heap.size, 0, none⟩ = some (.int .i64 t.k) := X0_a1.out.cell 0 _ rfl; have q0_1 : wa1.cell? ⟨w.heap.size, 1, none⟩ = some (.int .i64 t.d) := X0_a1.out.cell 1 _ rfl; have q0_2 : wa1.cell? ⟨w.heap.size, 2, none⟩ = some (.slice ao0 t.ts.length cap0) := X0_a1.out.cell 2 _ rfl; have q0_3 : wa1.cell? ⟨w.heap.size, 3, none⟩ = some (.int .i64 t.lo) := X0_a1.out.cell 3 _ rfl; have q0_4 : wa1.cell? ⟨w.heap.size, 4, none⟩ = some (.int .i64 t.hi) := X0_a1.out.cell 4 _ rfl; have q0_5 : wa1.cell? ⟨w.heap.size, 5, none⟩ = some (.slice ao n cap) := X0_a1.out.cell 5 _ rfl))
  clear q0_0 q0_1 q0_2 q0_3 q0_4 q0_5
  clear LBa0 HBa0 KAa0 SNa0 SRa0 XA0_a0
  have LBa1 : Hid (La1.length + (ei (t.d)).length ≤ 140737488355328) := (by have e := HN.out; rw [r_fil_eq] at e; simp only [List.length_append, ← HLN.out] at e; have e0 := congrArg List.length HLa1.out; simp only [List.length_append] at e0; apply hide; omega)
  refine (refint_any wa1 (t.d) i2.1 i2.2).mono ?_
  rintro e waa1 ⟨vaa1, rfl, oa, ba⟩
  change Owns waa1 _ vaa1 (ei (t.d)) at oa
  obtain ⟨saa1, sca1, rfl, sn, sr⟩ := own_src oa
  have HBa1 : Hid (Bf W0 waa1 va1 La1) := Bf.up Ha1.out ba
  have KAa1 : Hid (KT w waa1) := (Ka1.out).trans (KT.of_below ba)
  have XA0_a1 : Hid (BxA waa1 (w.heap.size) 32 #[.int .i64 t.k, .int .i64 t.d, .slice ao0 t.ts.length cap0, .int .i64 t.lo, .int .i64 t.hi, .slice ao n cap]) := by apply hide; simpa using (X0_a1.out).kt (KT.of_below ba) (by decide)
  have SNa1 : Hid (saa1 = none → (ei (t.d)).length = 0 ∧ sca1 = 0) := sn
  have SRa1 : Hid _ := sr
  clear oa ba sn sr
  go_wp2_with (first | (at_builtin; refine wp_app rfl _ _ rfl W0.heap.size _ La1 (ei (t.d)) rfl HBa1.out.o _ _ _ rfl rfl SNa1.out SRa1.out LBa1.out HBa1.out.b.size ?_; intro va2 wa2 o g; obtain ⟨B, kt⟩ := HBa1.out.app o g; obtain ⟨La2, hL⟩ : ∃ L, L = La1 ++ (ei (t.d)) := ⟨_, rfl⟩; rw [← hL] at B; have HLa2 : Hid (La2 = La1 ++ (ei (t.d))) := hL; clear hL; have Ha2 : Hid (Bf W0 wa2 va2 La2) := B; have Ka2 : Hid (KT w wa2) := KAa1.out.trans kt; have X0_a2 : Hid (BxA wa2 (w.heap.size) 32 #[.int .i64 t.k, .int .i64 t.d, .slice ao0 t.ts.length cap0, .int .i64 t.lo, .int .i64 t.hi, .slice ao n cap]) := XA0_a1.out.kt kt (by decide); clear o g B kt; have q0_0 : wa2.cell? ⟨w.heap.size, 0, none⟩ = some (.int .i64 t.k) := X0_a2.out.cell 0 _ rfl; have q0_1 : wa2.cell? ⟨w.heap.size, 1, none⟩ = some (.int .i64 t.d) := X0_a2.out.cell 1 _ rfl; have q0_2 : wa2.cell? ⟨w.heap.size, 2, none⟩ = some (.slice ao0 t.ts.length cap0) := X0_a2.out.cell 2 _ rfl; have q0_3 : wa2.cell? ⟨w.heap.size, 3, none⟩ = some (.int .i64 t.lo) := X0_a2.out.cell 3 _ rfl; have q0_4 : wa2.cell? ⟨w.heap.size, 4, none⟩ = some (.int .i64 t.hi) := X0_a2.out.cell 4 _ rfl; have q0_5 : wa2.cell? ⟨w.heap.size, 5, none⟩ = some (.slice ao n cap) := X0_a2.out.cell 5 _ rfl))
  clear q0_0 q0_1 q0_2 q0_3 q0_4 q0_5
  clear LBa1 HBa1 KAa1 SNa1 SRa1 XA0_a1 Ha1 Ka1 X0_a1
  have LBa2 : Hid (La2.length + (r_txt t.ts).length ≤ 1099511627776) := (by have e := HN.out; rw [r_fil_eq] at e; simp only [List.length_append, ← HLN.out] at e; have e0 := congrArg List.length HLa1.out; simp only [List.length_append] at e0; have e1 := congrArg List.length HLa2.out; simp only [List.length_append] at e1; apply hide; omega)
  refine (rtxt W0 wa2 va2 La2 _ t.ts HTR.out i5 Ha2.out LBa2.out).mono ?_
  rintro e wa3 ⟨va3, rfl, B, kt⟩
  obtain ⟨La3, hL⟩ : ∃ L, L = La2 ++ (r_txt t.ts) := ⟨_, rfl⟩
  rw [← hL] at B
  have HLa3 : Hid (La3 = La2 ++ (r_txt t.ts)) := hL
  clear hL
  have Ha3 : Hid (Bf W0 wa3 va3 La3) := B
  have Ka3 : Hid (KT w wa3) := (Ka2.out).trans kt
  have X0_a3 : Hid (BxA wa3 (w.heap.size) 32 #[.int .i64 t.k, .int .i64 t.d, .slice ao0 t.ts.length cap0, .int .i64 t.lo, .int .i64 t.hi, .slice ao n cap]) := by apply hide; simpa using (X0_a2.out).kt (kt) (by decide)
  clear B kt
  have q0_0 : wa3.cell? ⟨w.heap.size, 0, none⟩ = some (.int .i64 t.k) := X0_a3.out.cell 0 _ rfl
  have q0_1 : wa3.cell? ⟨w.heap.size, 1, none⟩ = some (.int .i64 t.d) := X0_a3.out.cell 1 _ rfl
  have q0_2 : wa3.cell? ⟨w.heap.size, 2, none⟩ = some (.slice ao0 t.ts.length cap0) := X0_a3.out.cell 2 _ rfl
  have q0_3 : wa3.cell? ⟨w.heap.size, 3, none⟩ = some (.int .i64 t.lo) := X0_a3.out.cell 3 _ rfl
  have q0_4 : wa3.cell? ⟨w.heap.size, 4, none⟩ = some (.int .i64 t.hi) := X0_a3.out.cell 4 _ rfl
  have q0_5 : wa3.cell? ⟨w.heap.size, 5, none⟩ = some (.slice ao n cap) := X0_a3.out.cell 5 _ rfl
  go_wp2_with fail
  clear q0_0 q0_1 q0_2 q0_3 q0_4 q0_5
  clear LBa2 Ha2 Ka2 X0_a2
  have LBa3 : Hid (La3.length + (ei (t.lo)).length ≤ 140737488355328) := (by have e := HN.out; rw [r_fil_eq] at e; simp only [List.length_append, ← HLN.out] at e; have e0 := congrArg List.length HLa1.out; simp only [List.length_append] at e0; have e1 := congrArg List.length HLa2.out; simp only [List.length_append] at e1; have e2 := congrArg List.length HLa3.out; simp only [List.length_append] at e2; apply hide; omega)
  refine (refint_any wa3 (t.lo) i3.1 i3.2).mono ?_
  rintro e waa3 ⟨vaa3, rfl, oa, ba⟩
  change Owns waa3 _ vaa3 (ei (t.lo)) at oa
  obtain ⟨saa3, sca3, rfl, sn, sr⟩ := own_src oa
  have HBa3 : Hid (Bf W0 waa3 va3 La3) := Bf.up Ha3.out ba
  have KAa3 : Hid (KT w waa3) := (Ka3.out).trans (KT.of_below ba)
  have XA0_a3 : Hid (BxA waa3 (w.heap.size) 32 #[.int .i64 t.k, .int .i64 t.d, .slice ao0 t.ts.length cap0, .int .i64 t.lo, .int .i64 t.hi, .slice ao n cap]) := by apply hide; simpa using (X0_a3.out).kt (KT.of_below ba) (by decide)
  have SNa3 : Hid (saa3 = none → (ei (t.lo)).length = 0 ∧ sca3 = 0) := sn
  have SRa3 : Hid _ := sr
  clear oa ba sn sr
  go_wp2_with (first | (at_builtin; refine wp_app rfl _ _ rfl W0.heap.size _ La3 (ei (t.lo)) rfl HBa3.out.o _ _ _ rfl rfl SNa3.out SRa3.out LBa3.out HBa3.out.b.size ?_; intro va4 wa4 o g; obtain ⟨B, kt⟩ := HBa3.out.app o g; obtain ⟨La4, hL⟩ : ∃ L, L = La3 ++ (ei (t.lo)) := ⟨_, rfl⟩; rw [← hL] at B; have HLa4 : Hid (La4 = La3 ++ (ei (t.lo))) := hL; clear hL; have Ha4 : Hid (Bf W0 wa4 va4 La4) := B; have Ka4 : Hid (KT w wa4) := KAa3.out.trans kt; have X0_a4 : Hid (BxA wa4 (w.heap.size) 32 #[.int .i64 t.k, .int .i64 t.d, .slice ao0 t.ts.length cap0, .int .i64 t.lo, .int .i64 t.hi, .slice ao n cap]) := XA0_a3.out.kt kt (by decide); clear o g B kt; have q0_0 : wa4.cell? ⟨w.heap.size, 0, none⟩ = some (.int .i64 t.k) := X0_a4.out.cell 0 _ rfl; have q0_1 : wa4.cell? ⟨w.heap.size, 1, none⟩ = some (.int .i64 t.d) := X0_a4.out.cell 1 _ rfl; have q0_2 : wa4.cell? ⟨w.heap.size, 2, none⟩ = some (.slice ao0 t.ts.length cap0) := X0_a4.out.cell 2 _ rfl; have q0_3 : wa4.cell? ⟨w.heap.size, 3, none⟩ = some (.int .i64 t.lo) := X0_a4.out.cell 3 _ rfl; have q0_4 : wa4.cell? ⟨w.heap.size, 4, none⟩ = some (.int .i64 t.hi) := X0_a4.out.cell 4 _ rfl; have q0_5 : wa4.cell? ⟨w.heap.size, 5, none⟩ = some (.slice ao n cap) := X0_a4.out.cell 5 _ rfl))
  clear q0_0 q0_1 q0_2 q0_3 q0_4 q0_5
  clear LBa3 HBa3 KAa3 SNa3 SRa3 XA0_a3 Ha3 Ka3 X0_a3
  have LBa4 : Hid (La4.length + (ei (t.hi)).length ≤ 140737488355328) := (by have e := HN.out; rw [r_fil_eq] at e; simp only [List.length_append, ← HLN.out] at e; have e0 := congrArg List.length HLa1.out; simp only [List.length_append] at e0; have e1 := congrArg List.length HLa2.out; simp only [List.length_append] at e1; have e2 := congrArg List.length HLa3.out; simp only [List.length_append] at e2; have e3 := congrArg List.length HLa4.out; simp only [List.length_append] at e3; apply hide; omega)
  refine (refint_any wa4 (t.hi) i4.1 i4.2).mono ?_
  rintro e waa4 ⟨vaa4, rfl, oa, ba⟩
  change Owns waa4 _ vaa4 (ei (t.hi)) at oa
  obtain ⟨saa4, sca4, rfl, sn, sr⟩ := own_src oa
  have HBa4 : Hid (Bf W0 waa4 va4 La4) := Bf.up Ha4.out ba
  have KAa4 : Hid (KT w waa4) := (Ka4.out).trans (KT.of_below ba)
  have XA0_a4 : Hid (BxA waa4 (w.heap.size) 32 #[.int .i64 t.k, .int .i64 t.d, .slice ao0 t.ts.length cap0, .int .i64 t.lo, .int .i64 t.hi, .slice ao n cap]) := by apply hide; simpa using (X0_a4.out).kt (KT.of_below ba) (by decide)
  have SNa4 : Hid (saa4 = none → (ei (t.hi)).length = 0 ∧ sca4 = 0) := sn
  have SRa4 : Hid _ := sr
  clear oa ba sn sr
  go_wp2_with (first | (at_builtin; refine wp_app rfl _ _ rfl W0.heap.size _ La4 (ei (t.hi)) rfl HBa4.out.o _ _ _ rfl rfl SNa4.out SRa4.out LBa4.out HBa4.out.b.size ?_; intro va5 wa5 o g; obtain ⟨B, kt⟩ := HBa4.out.app o g; obtain ⟨La5, hL⟩ : ∃ L, L = La4 ++ (ei (t.hi)) := ⟨_, rfl⟩; rw [← hL] at B; have HLa5 : Hid (La5 = La4 ++ (ei (t.hi))) := hL; clear hL; have Ha5 : Hid (Bf W0 wa5 va5 La5) := B; have Ka5 : Hid (KT w wa5) := KAa4.out.trans kt; have X0_a5 : Hid (BxA wa5 (w.heap.size) 32 #[.int .i64 t.k, .int .i64 t.d, .slice ao0 t.ts.length cap0, .int .i64 t.lo, .int .i64 t.hi, .slice ao n cap]) := XA0_a4.out.kt kt (by decide); clear o g B kt; have q0_0 : wa5.cell? ⟨w.heap.size, 0, none⟩ = some (.int .i64 t.k) := X0_a5.out.cell 0 _ rfl; have q0_1 : wa5.cell? ⟨w.heap.size, 1, none⟩ = some (.int .i64 t.d) := X0_a5.out.cell 1 _ rfl; have q0_2 : wa5.cell? ⟨w.heap.size, 2, none⟩ = some (.slice ao0 t.ts.length cap0) := X0_a5.out.cell 2 _ rfl; have q0_3 : wa5.cell? ⟨w.heap.size, 3, none⟩ = some (.int .i64 t.lo) := X0_a5.out.cell 3 _ rfl; have q0_4 : wa5.cell? ⟨w.heap.size, 4, none⟩ = some (.int .i64 t.hi) := X0_a5.out.cell 4 _ rfl; have q0_5 : wa5.cell? ⟨w.heap.size, 5, none⟩ = some (.slice ao n cap) := X0_a5.out.cell 5 _ rfl))
  clear q0_0 q0_1 q0_2 q0_3 q0_4 q0_5
  clear LBa4 HBa4 KAa4 SNa4 SRa4 XA0_a4 Ha4 Ka4 X0_a4
  have LBa5 : Hid (La5.length + (Num.uv (n)).length ≤ 140737488355328) := (by have e := HN.out; rw [r_fil_eq] at e; simp only [List.length_append, ← HLN.out] at e; have e0 := congrArg List.length HLa1.out; simp only [List.length_append] at e0; have e1 := congrArg List.length HLa2.out; simp only [List.length_append] at e1; have e2 := congrArg List.length HLa3.out; simp only [List.length_append] at e2; have e3 := congrArg List.length HLa4.out; simp only [List.length_append] at e3; have e4 := congrArg List.length HLa5.out; simp only [List.length_append] at e4; apply hide; omega)
  refine (refuint_any wa5 (n) hnu).mono ?_
  rintro e waa5 ⟨vaa5, rfl, oa, ba⟩
  change Owns waa5 _ vaa5 (Num.uv (n)) at oa
  obtain ⟨saa5, sca5, rfl, sn, sr⟩ := own_src oa
  have HBa5 : Hid (Bf W0 waa5 va5 La5) := Bf.up Ha5.out ba
  have KAa5 : Hid (KT w waa5) := (Ka5.out).trans (KT.of_below ba)
  have XA0_a5 : Hid (BxA waa5 (w.heap.size) 32 #[.int .i64 t.k, .int .i64 t.d, .slice ao0 t.ts.length cap0, .int .i64 t.lo, .int .i64 t.hi, .slice ao n cap]) := by apply hide; simpa using (X0_a5.out).kt (KT.of_below ba) (by decide)
  have SNa5 : Hid (saa5 = none → (Num.uv (n)).length = 0 ∧ sca5 = 0) := sn
  have SRa5 : Hid _ := sr
  clear oa ba sn sr
  go_wp2_with (first | (at_builtin; refine wp_app rfl _ _ rfl W0.heap.size _ La5 (Num.uv (n)) rfl HBa5.out.o _ _ _ rfl rfl SNa5.out SRa5.out LBa5.out HBa5.out.b.size ?_; intro va6 wa6 o g; obtain ⟨B, kt⟩ := HBa5.out.app o g; obtain ⟨La6, hL⟩ : ∃ L, L = La5 ++ (Num.uv (n)) := ⟨_, rfl⟩; rw [← hL] at B; have HLa6 : Hid (La6 = La5 ++ (Num.uv (n))) := hL; clear hL; have Ha6 : Hid (Bf W0 wa6 va6 La6) := B; have Ka6 : Hid (KT w wa6) := KAa5.out.trans kt; have X0_a6 : Hid (BxA wa6 (w.heap.size) 32 #[.int .i64 t.k, .int .i64 t.d, .slice ao0 t.ts.length cap0, .int .i64 t.lo, .int .i64 t.hi, .slice ao n cap]) := XA0_a5.out.kt kt (by decide); clear o g B kt))
  clear LBa5 HBa5 KAa5 SNa5 SRa5 XA0_a5 Ha5 Ka5 X0_a5
  go_loopg [0, 5] n (fun kx vb vi wr => ∃ (i : Nat) (x : Value), vi = .int .i64 (i : Int) ∧ x = vb ∧ i ≤ n ∧ n - i ≤ kx ∧ Hid (Bf W0 wr x (La6 ++ (t.ks.take i).flatMap r_fil)) ∧ Hid (KT w wr) ∧ Hid (BxA wr (w.heap.size) 32 #[.int .i64 t.k, .int .i64 t.d, .slice ao0 t.ts.length cap0, .int .i64 t.lo, .int .i64 t.hi, .slice ao n cap]))
  case atStart => exact ⟨0, _, rfl, rfl, by omega, Nat.le_refl _, by apply hide; simpa using Ha6.out, Ka6.out, X0_a6.out⟩
  case round =>
    obtain ⟨i, vrb, rfl, rfl, hib, hkxb, HRb, KRb, XR0b⟩ := hrel
    have q0_0 : wr.cell? ⟨w.heap.size, 0, none⟩ = some (.int .i64 t.k) := XR0b.out.cell 0 _ rfl
    have q0_1 : wr.cell? ⟨w.heap.size, 1, none⟩ = some (.int .i64 t.d) := XR0b.out.cell 1 _ rfl
    have q0_2 : wr.cell? ⟨w.heap.size, 2, none⟩ = some (.slice ao0 t.ts.length cap0) := XR0b.out.cell 2 _ rfl
    have q0_3 : wr.cell? ⟨w.heap.size, 3, none⟩ = some (.int .i64 t.lo) := XR0b.out.cell 3 _ rfl
    have q0_4 : wr.cell? ⟨w.heap.size, 4, none⟩ = some (.int .i64 t.hi) := XR0b.out.cell 4 _ rfl
    have q0_5 : wr.cell? ⟨w.heap.size, 5, none⟩ = some (.slice ao n cap) := XR0b.out.cell 5 _ rfl
    by_cases hltb : i < n
    · have hltz : (i : Int) < (n : Int) := by omega
      have hilb : i < t.ks.length := by have := HLN.out; omega
      obtain ⟨bbb, offb, rfl, hblb, hcb⟩ := lst_cell (k := 6) (f := cl_fil) (by decide) (fun _ => rfl) HLS.out (by omega)
      obtain ⟨Lrb, hLrb⟩ : ∃ L, L = La6 ++ (t.ks.take i).flatMap r_fil := ⟨_, rfl⟩
      have HLrb : Hid (Lrb = La6 ++ (t.ks.take i).flatMap r_fil) := hLrb
      have HRRb : Hid (Bf W0 wr vrb Lrb) := by apply hide; rw [hLrb]; exact HRb.out
      have hlen := rl_len r_fil t.ks i hilb
      have htk := rl_take r_fil t.ks i hilb
      obtain ⟨yb, hy⟩ : ∃ y, t.ks[i] = y := ⟨_, rfl⟩
      have hymb : yb ∈ t.ks := by rw [← hy]; exact List.getElem_mem hilb
      have Eb0 : Hid (W0.cell? ⟨bbb, offb + i * 6, none⟩ = some (.int .i64 yb.k)) := by apply hide; have := hcb i hilb 0 (.int .i64 yb.k) (by omega) (by rw [hy]; rfl); simpa [Nat.add_assoc] using this
      have Eb1 : Hid (W0.cell? ⟨bbb, offb + i * 6 + 1, none⟩ = some (.int .i64 yb.d)) := by apply hide; have := hcb i hilb 1 (.int .i64 yb.d) (by omega) (by rw [hy]; rfl); simpa [Nat.add_assoc] using this
      have Eb2 : Hid (W0.cell? ⟨bbb, offb + i * 6 + 2, none⟩ = some (yb.tv)) := by apply hide; have := hcb i hilb 2 (yb.tv) (by omega) (by rw [hy]; rfl); simpa [Nat.add_assoc] using this
      have Eb3 : Hid (W0.cell? ⟨bbb, offb + i * 6 + 3, none⟩ = some (.int .i64 yb.lo)) := by apply hide; have := hcb i hilb 3 (.int .i64 yb.lo) (by omega) (by rw [hy]; rfl); simpa [Nat.add_assoc] using this
      have Eb4 : Hid (W0.cell? ⟨bbb, offb + i * 6 + 4, none⟩ = some (.int .i64 yb.hi)) := by apply hide; have := hcb i hilb 4 (.int .i64 yb.hi) (by omega) (by rw [hy]; rfl); simpa [Nat.add_assoc] using this
      have Eb5 : Hid (W0.cell? ⟨bbb, offb + i * 6 + 5, none⟩ = some (yb.kv)) := by apply hide; have := hcb i hilb 5 (yb.kv) (by omega) (by rw [hy]; rfl); simpa [Nat.add_assoc] using this
      rw [hy] at hlen htk
      have HTKb : Hid _ := htk
      have HTb : Hid (Lrb.length + (r_fil yb).length ≤ 1099511627776) := by apply hide; have e := HN.out; rw [r_fil_eq] at e; simp only [List.length_append, ← HLN.out] at e; have e0 := congrArg List.length HLa1.out; simp only [List.length_append] at e0; have e1 := congrArg List.length HLa2.out; simp only [List.length_append] at e1; have e2 := congrArg List.length HLa3.out; simp only [List.length_append] at e2; have e3 := congrArg List.length HLa4.out; simp only [List.length_append] at e3; have e4 := congrArg List.length HLa5.out; simp only [List.length_append] at e4; have e5 := congrArg List.length HLa6.out; simp only [List.length_append] at e5; rw [hLrb, List.length_append]; omega
      clear hlen htk hcb hLrb hy
      have yok := HOK.out yb hymb
      obtain ⟨ya, yn, yc, ye⟩ := lst_sl (rds_lst yok.rt)
      obtain ⟨za, zn, zc, ze⟩ := lst_sl (tr_lst yok)
      have kI : ∀ (w : World) (v : Value) (l : Bs), Bf W0 w v l → l.length + (r_fil yb).length ≤ 1099511627776 → _ := fun w v l h hn => HI.out yb (by have := ks_lt hymb; have := HSZ.out; omega) W0 w v l yok (HIN.out yb hymb) h hn
      rw [ye, ze] at kI
      rw [ye] at Eb2
      rw [ze] at Eb5
      have HKI : Aside _ := kI
      clear kI ye ze yok
      have rb0 : wr.cell? ⟨bbb, offb + i * 6, none⟩ = some (.int .i64 yb.k) := cup HRRb.out.b Eb0.out
      have rb1 : wr.cell? ⟨bbb, offb + i * 6 + 1, none⟩ = some (.int .i64 yb.d) := cup HRRb.out.b Eb1.out
      have rb2 : wr.cell? ⟨bbb, offb + i * 6 + 2, none⟩ = some (.slice ya yn yc) := cup HRRb.out.b Eb2.out
      have rb3 : wr.cell? ⟨bbb, offb + i * 6 + 3, none⟩ = some (.int .i64 yb.lo) := cup HRRb.out.b Eb3.out
      have rb4 : wr.cell? ⟨bbb, offb + i * 6 + 4, none⟩ = some (.int .i64 yb.hi) := cup HRRb.out.b Eb4.out
      have rb5 : wr.cell? ⟨bbb, offb + i * 6 + 5, none⟩ = some (.slice za zn zc) := cup HRRb.out.b Eb5.out
      go_wp2_with fail
      clear q0_0 q0_1 q0_2 q0_3 q0_4 q0_5 rb0 rb1 rb2 rb3 rb4 rb5
      have LBb0 : Hid (Lrb.length + (r_fil yb).length ≤ 1099511627776) := (by have e := HTb.out; apply hide; omega)
      refine (HKI.out wr vrb Lrb HRRb.out LBb0.out).mono ?_
      rintro e wb1 ⟨vb1, rfl, B, kt⟩
      obtain ⟨Lb1, hL⟩ : ∃ L, L = Lrb ++ (r_fil yb) := ⟨_, rfl⟩
      rw [← hL] at B
      have HLb1 : Hid (Lb1 = Lrb ++ (r_fil yb)) := hL
      clear hL
      have Hb1 : Hid (Bf W0 wb1 vb1 Lb1) := B
      have Kb1 : Hid (KT w wb1) := (KRb.out).trans kt
      have X0_b1 : Hid (BxA wb1 (w.heap.size) 32 #[.int .i64 t.k, .int .i64 t.d, .slice ao0 t.ts.length cap0, .int .i64 t.lo, .int .i64 t.hi, .slice (some ⟨bbb, offb, none⟩) n cap]) := by apply hide; simpa using (XR0b.out).kt (kt) (by decide)
      clear B kt
      have q0_0 : wb1.cell? ⟨w.heap.size, 0, none⟩ = some (.int .i64 t.k) := X0_b1.out.cell 0 _ rfl
      have q0_1 : wb1.cell? ⟨w.heap.size, 1, none⟩ = some (.int .i64 t.d) := X0_b1.out.cell 1 _ rfl
      have q0_2 : wb1.cell? ⟨w.heap.size, 2, none⟩ = some (.slice ao0 t.ts.length cap0) := X0_b1.out.cell 2 _ rfl
      have q0_3 : wb1.cell? ⟨w.heap.size, 3, none⟩ = some (.int .i64 t.lo) := X0_b1.out.cell 3 _ rfl
      have q0_4 : wb1.cell? ⟨w.heap.size, 4, none⟩ = some (.int .i64 t.hi) := X0_b1.out.cell 4 _ rfl
      have q0_5 : wb1.cell? ⟨w.heap.size, 5, none⟩ = some (.slice (some ⟨bbb, offb, none⟩) n cap) := X0_b1.out.cell 5 _ rfl
      have rb0 : wb1.cell? ⟨bbb, offb + i * 6, none⟩ = some (.int .i64 yb.k) := cup Hb1.out.b Eb0.out
      have rb1 : wb1.cell? ⟨bbb, offb + i * 6 + 1, none⟩ = some (.int .i64 yb.d) := cup Hb1.out.b Eb1.out
      have rb2 : wb1.cell? ⟨bbb, offb + i * 6 + 2, none⟩ = some (.slice ya yn yc) := cup Hb1.out.b Eb2.out
      have rb3 : wb1.cell? ⟨bbb, offb + i * 6 + 3, none⟩ = some (.int .i64 yb.lo) := cup Hb1.out.b Eb3.out
      have rb4 : wb1.cell? ⟨bbb, offb + i * 6 + 4, none⟩ = some (.int .i64 yb.hi) := cup Hb1.out.b Eb4.out
      have rb5 : wb1.cell? ⟨bbb, offb + i * 6 + 5, none⟩ = some (.slice za zn zc) := cup Hb1.out.b Eb5.out
      go_wp2_with fail
      clear q0_0 q0_1 q0_2 q0_3 q0_4 q0_5 rb0 rb1 rb2 rb3 rb4 rb5
      clear LBb0
      go_roundg (n - (i + 1))
      case measure => omega
      case rel => exact ⟨i + 1, _, by go_num, rfl, by omega, Nat.le_refl _, by apply hide; rw [HTKb.out, ← List.append_assoc, ← HLrb.out]; have e : Lb1 = Lrb ++ r_fil yb := (by rw [HLb1.out]); rw [← e]; exact Hb1.out, Kb1.out, X0_b1.out⟩
    · have hltz : ¬ (i : Int) < (n : Int) := by omega
      obtain ⟨LXb, hLX⟩ : ∃ L, L = La6 ++ t.ks.flatMap r_fil := ⟨_, rfl⟩
      have HLXb : Hid (LXb = La6 ++ t.ks.flatMap r_fil) := hLX
      have HRXb : Hid (Bf W0 wr vrb LXb) := by apply hide; rw [hLX]; have e := HRb.out; rwa [List.take_of_length_le (by have := HLN.out; omega)] at e
      clear hLX
      go_wp2_with fail
      clear q0_0 q0_1 q0_2 q0_3 q0_4 q0_5
      go_ret
      refine ⟨_, rfl, ?_, KRb.out⟩
      have e : LXb = l ++ r_fil t := by rw [HLXb.out, HLa6.out, HLa5.out, HLa4.out, HLa3.out, HLa2.out, HLa1.out, r_fil_eq, ← HLN.out]; simp only [List.append_assoc]
      rw [← e]
      exact HRXb.out
theorem rfil_any : ∀ N, RFil N
  | 0 => fun _ h => absurd h (by omega)
  | N + 1 => fun t h W0 w v l ho hin hb hn => rfil_step W0 w v l t N (rfil_any N) h ho hin hb hn
theorem rfil (W0 w : World) (v : Value) (l : Bs) (t : Fi.Tr) (ho : t.Ok W0) (hin : TrIn t) (h : Bf W0 w v l) (hN : l.length + (r_fil t).length ≤ 1099511627776) :
    Calls Try.prog 92 #[v, .agg #[.int .i64 t.k, .int .i64 t.d, t.tv, .int .i64 t.lo, .int .i64 t.hi, t.kv]] w (Adds W0 w (l ++ r_fil t)) := rfil_any _ t (Nat.lt_succ_self _) W0 w v l ho hin h hN
end Go.Proofs.Ytpdlioidiobbbaa
