/- The writer: spans, segments, orders, facts, groups, filters, queries, messages. -/
import Derived.Test.YtpdlioidiobbbaaWls
namespace Go.Proofs.Ytpdlioidiobbbaa
open Go.RowKit

/-- A box of some cells. -/
def BxA (w : World) (g : Nat) (t : TypeId) (cs : Array Value) : Prop := w.heap[g]? = some (.cells cs t (0, 0))
theorem BxA.new (w : World) (t : TypeId) (cs : Array Value) : BxA (w.alloc (.cells cs t)) w.heap.size t cs := heap_alloc_new w _
theorem BxA.kp {w w' : World} {p g : Nat} {t : TypeId} {cs : Array Value} (h : BxA w g t cs) (hk : KP p w w') (hg : g ≠ p) (ht : t ≠ 5) : BxA w' g t cs := by
  unfold BxA at h ⊢
  rw [hk.2 g (Array.getElem?_eq_some_iff.1 h).1 hg (fun c fr e => ht (by rw [h] at e; simp at e; exact e.2.1)), h]
theorem BxA.cell {w : World} {g : Nat} {t : TypeId} {cs : Array Value} (h : BxA w g t cs) (c : Nat) (u : Value) (hu : cs[c]? = some u) : w.cell? ⟨g, c, none⟩ = some u := by
  unfold BxA at h
  simp [World.cell?, h, hu]
def In64 (z : Int) : Prop := -9223372036854775808 ≤ z ∧ z ≤ 9223372036854775807
def InU (n : Nat) : Prop := n < 18446744073709551616
theorem flat_str (ts : List Fi.Str) : ts.flatMap cl_str = Fi.sv ts := by
  induction ts with
  | nil => rfl
  | cons a r ih => simp only [List.flatMap_cons, ih, Fi.sv, List.map_cons, cl_str]; rfl
theorem flat_i64 (zs : List Int) : zs.flatMap cl_i64 = Fi.iv zs := by
  induction zs with
  | nil => rfl
  | cons a r ih => simp only [List.flatMap_cons, ih, Fi.iv, List.map_cons, cl_i64]; rfl
theorem rds_lst {w : World} {v : Value} {ts : List Fi.Str} (h : Fi.Rds w v (Fi.sv ts)) : Lst 1 cl_str w v ts := by
  obtain ⟨ao, cap, rfl, h1, h2, h3, h4⟩ := h
  have e := flat_str ts
  unfold Lst
  rw [e]
  rw [Fi.sv_length] at h1 h3 ⊢
  exact ⟨ao, cap, rfl, by rw [Fi.sv_length]; omega, h1, h2, h3, h4⟩
theorem rds_lsti {w : World} {v : Value} {zs : List Int} (h : Fi.Rds w v (Fi.iv zs)) : Lst 1 cl_i64 w v zs := by
  obtain ⟨ao, cap, rfl, h1, h2, h3, h4⟩ := h
  have e := flat_i64 zs
  unfold Lst
  rw [e]
  rw [Fi.iv_length] at h1 h3 ⊢
  exact ⟨ao, cap, rfl, by rw [Fi.iv_length]; omega, h1, h2, h3, h4⟩
/-- Texts that can be. -/
def Txs (ts : List Fi.Str) : Prop := ∀ t ∈ ts, t.length ≤ 140737488351232
def Zs (zs : List Int) : Prop := ∀ z ∈ zs, In64 z
def e_txt (ts : List Fi.Str) : Option Bs := el (fun t => some (et t)) ts
def e_int (z : Int) : Option Bs := some (ei z)
def e_u (n : Nat) : Option Bs := some (Num.uv n)
def e_bool (b : Bool) : Option Bs := some (eb b)
theorem wtxts (W0 w : World) (p : Nat) (s : Option Bs) (v : Value) (ts : List Fi.Str) (h : Wr W0 p w s) (hr : Lst 1 cl_str W0 v ts) (ht : Txs ts) :
    Calls Try.prog 77 #[.pointer (some ⟨p, 0, none⟩), v, .func (.func 78) #[.pointer (some ⟨p, 0, none⟩)] #[]] w (Wrote W0 p w (put s (e_txt ts))) :=
  wl_str W0 w p s v ts _ h hr fun t hm wr s _ h => wtext W0 wr p t s h (Nat.le_trans (ht t hm) (by decide))
theorem wi64s (W0 w : World) (p : Nat) (s : Option Bs) (v : Value) (zs : List Int) (h : Wr W0 p w s) (hr : Lst 1 cl_i64 W0 v zs) (ht : Zs zs) :
    Calls Try.prog 79 #[.pointer (some ⟨p, 0, none⟩), v, .func (.func 76) #[.pointer (some ⟨p, 0, none⟩)] #[]] w (Wrote W0 p w (put s (el e_int zs))) :=
  wl_i64 W0 w p s v zs _ h hr fun z hm wr s _ h => wint W0 wr p z s h (ht z hm).1 (ht z hm).2
theorem wints (W0 w : World) (p : Nat) (s : Option Bs) (v : Value) (zs : List Int) (h : Wr W0 p w s) (hr : Lst 1 cl_int W0 v zs) (ht : Zs zs) :
    Calls Try.prog 84 #[.pointer (some ⟨p, 0, none⟩), v, .func (.func 74) #[.pointer (some ⟨p, 0, none⟩)] #[]] w (Wrote W0 p w (put s (el e_int zs))) :=
  wl_int W0 w p s v zs _ h hr fun z hm wr s _ h => wwhole W0 wr p z s h (ht z hm).1 (ht z hm).2
def e_span (F T : Int) : Option Bs := cat (e_int F) (e_int T)
set_option maxRecDepth 100000 in
set_option maxHeartbeats 3200000 in
theorem wspan (W0 w : World) (p : Nat) (s : Option Bs) (F T : Int) (h1 : In64 F) (h2 : In64 T) (h : Wr W0 p w s) :
    Calls Try.prog 80 #[.pointer (some ⟨p, 0, none⟩), .agg #[.int .i64 F, .int .i64 T]] w (Wrote W0 p w (put s (e_span F T))) := by
  have hz := h.z
  go_enter Try.func80, Try.ntmps80
  go_wp2_with fail
  refine (wint W0 _ p F _ (h.alloc _) h1.1 h1.2).mono ?_
  rintro e w1 ⟨rfl, H, K⟩
  have H1 : Hid (Wr W0 p w1 _) := H
  have K1 : Hid (KP p w w1) := ((KP.refl p w).trans (KP.alloc p _ _)).trans K
  have X0_1 : Hid (BxA w1 (w.heap.size) 29 #[.int .i64 F, .int .i64 T]) := ((BxA.new _ 29 #[.int .i64 F, .int .i64 T])).kp K (by omega) (by decide)
  clear H K
  have q0_0 : w1.cell? ⟨w.heap.size, 0, none⟩ = some (.int .i64 F) := X0_1.out.cell 0 _ rfl
  have q0_1 : w1.cell? ⟨w.heap.size, 1, none⟩ = some (.int .i64 T) := X0_1.out.cell 1 _ rfl
  go_wp2_with fail
  clear q0_0 q0_1
  refine (wint W0 w1 p T _ H1.out h2.1 h2.2).mono ?_
  rintro e w2 ⟨rfl, H, K⟩
  have H2 : Hid (Wr W0 p w2 _) := H
  have K2 : Hid (KP p w w2) := K1.out.trans K
  have X0_2 : Hid (BxA w2 (w.heap.size) 29 #[.int .i64 F, .int .i64 T]) := X0_1.out.kp K (by omega) (by decide)
  clear H K
  go_wp2_with fail
  go_end0
  refine ⟨rfl, ?_, K2.out⟩
  have := H2.out
  simpa only [put_put, cat_assoc, e_int, e_u, e_bool, e_span] using this
def e_seg (x : Sg) : Option Bs := cat (e_span x.F x.T) (cat (e_int x.V) (cat (e_int x.P) (e_int x.C)))
def Sg.In (x : Sg) : Prop := In64 x.F ∧ In64 x.T ∧ In64 x.V ∧ In64 x.P ∧ In64 x.C
set_option maxRecDepth 100000 in
set_option maxHeartbeats 3200000 in
theorem wseg (W0 w : World) (p : Nat) (s : Option Bs) (x : Sg) (hx : x.In) (h : Wr W0 p w s) :
    Calls Try.prog 25 #[.pointer (some ⟨p, 0, none⟩), .agg #[.int .i64 x.F, .int .i64 x.T, .int .i64 x.V, .int .i64 x.P, .int .i64 x.C]] w (Wrote W0 p w (put s (e_seg x))) := by
  have hz := h.z
  go_enter Try.func25, Try.ntmps25
  go_wp2_with fail
  refine (wspan W0 _ p _ x.F x.T hx.1 hx.2.1 (h.alloc _)).mono ?_
  rintro e w1 ⟨rfl, H, K⟩
  have H1 : Hid (Wr W0 p w1 _) := H
  have K1 : Hid (KP p w w1) := ((KP.refl p w).trans (KP.alloc p _ _)).trans K
  have X0_1 : Hid (BxA w1 (w.heap.size) 38 #[.int .i64 x.F, .int .i64 x.T, .int .i64 x.V, .int .i64 x.P, .int .i64 x.C]) := ((BxA.new _ 38 #[.int .i64 x.F, .int .i64 x.T, .int .i64 x.V, .int .i64 x.P, .int .i64 x.C])).kp K (by omega) (by decide)
  clear H K
  have q0_0 : w1.cell? ⟨w.heap.size, 0, none⟩ = some (.int .i64 x.F) := X0_1.out.cell 0 _ rfl
  have q0_1 : w1.cell? ⟨w.heap.size, 1, none⟩ = some (.int .i64 x.T) := X0_1.out.cell 1 _ rfl
  have q0_2 : w1.cell? ⟨w.heap.size, 2, none⟩ = some (.int .i64 x.V) := X0_1.out.cell 2 _ rfl
  have q0_3 : w1.cell? ⟨w.heap.size, 3, none⟩ = some (.int .i64 x.P) := X0_1.out.cell 3 _ rfl
  have q0_4 : w1.cell? ⟨w.heap.size, 4, none⟩ = some (.int .i64 x.C) := X0_1.out.cell 4 _ rfl
  go_wp2_with fail
  clear q0_0 q0_1 q0_2 q0_3 q0_4
  refine (wwhole W0 w1 p x.V _ H1.out hx.2.2.1.1 hx.2.2.1.2).mono ?_
  rintro e w2 ⟨rfl, H, K⟩
  have H2 : Hid (Wr W0 p w2 _) := H
  have K2 : Hid (KP p w w2) := K1.out.trans K
  have X0_2 : Hid (BxA w2 (w.heap.size) 38 #[.int .i64 x.F, .int .i64 x.T, .int .i64 x.V, .int .i64 x.P, .int .i64 x.C]) := X0_1.out.kp K (by omega) (by decide)
  clear H K
  have q0_0 : w2.cell? ⟨w.heap.size, 0, none⟩ = some (.int .i64 x.F) := X0_2.out.cell 0 _ rfl
  have q0_1 : w2.cell? ⟨w.heap.size, 1, none⟩ = some (.int .i64 x.T) := X0_2.out.cell 1 _ rfl
  have q0_2 : w2.cell? ⟨w.heap.size, 2, none⟩ = some (.int .i64 x.V) := X0_2.out.cell 2 _ rfl
  have q0_3 : w2.cell? ⟨w.heap.size, 3, none⟩ = some (.int .i64 x.P) := X0_2.out.cell 3 _ rfl
  have q0_4 : w2.cell? ⟨w.heap.size, 4, none⟩ = some (.int .i64 x.C) := X0_2.out.cell 4 _ rfl
  go_wp2_with fail
  clear q0_0 q0_1 q0_2 q0_3 q0_4
  refine (wwhole W0 w2 p x.P _ H2.out hx.2.2.2.1.1 hx.2.2.2.1.2).mono ?_
  rintro e w3 ⟨rfl, H, K⟩
  have H3 : Hid (Wr W0 p w3 _) := H
  have K3 : Hid (KP p w w3) := K2.out.trans K
  have X0_3 : Hid (BxA w3 (w.heap.size) 38 #[.int .i64 x.F, .int .i64 x.T, .int .i64 x.V, .int .i64 x.P, .int .i64 x.C]) := X0_2.out.kp K (by omega) (by decide)
  clear H K
  have q0_0 : w3.cell? ⟨w.heap.size, 0, none⟩ = some (.int .i64 x.F) := X0_3.out.cell 0 _ rfl
  have q0_1 : w3.cell? ⟨w.heap.size, 1, none⟩ = some (.int .i64 x.T) := X0_3.out.cell 1 _ rfl
  have q0_2 : w3.cell? ⟨w.heap.size, 2, none⟩ = some (.int .i64 x.V) := X0_3.out.cell 2 _ rfl
  have q0_3 : w3.cell? ⟨w.heap.size, 3, none⟩ = some (.int .i64 x.P) := X0_3.out.cell 3 _ rfl
  have q0_4 : w3.cell? ⟨w.heap.size, 4, none⟩ = some (.int .i64 x.C) := X0_3.out.cell 4 _ rfl
  go_wp2_with fail
  clear q0_0 q0_1 q0_2 q0_3 q0_4
  refine (wwhole W0 w3 p x.C _ H3.out hx.2.2.2.2.1 hx.2.2.2.2.2).mono ?_
  rintro e w4 ⟨rfl, H, K⟩
  have H4 : Hid (Wr W0 p w4 _) := H
  have K4 : Hid (KP p w w4) := K3.out.trans K
  have X0_4 : Hid (BxA w4 (w.heap.size) 38 #[.int .i64 x.F, .int .i64 x.T, .int .i64 x.V, .int .i64 x.P, .int .i64 x.C]) := X0_3.out.kp K (by omega) (by decide)
  clear H K
  go_wp2_with fail
  go_end0
  refine ⟨rfl, ?_, K4.out⟩
  have := H4.out
  simpa only [put_put, cat_assoc, e_int, e_u, e_bool, e_seg] using this
def e_piece (x : Sg) (F T : Int) : Option Bs := cat (e_seg x) (e_span F T)
set_option maxRecDepth 100000 in
set_option maxHeartbeats 3200000 in
theorem wpiece (W0 w : World) (p : Nat) (s : Option Bs) (x : Sg) (F T : Int) (hx : x.In) (h1 : In64 F) (h2 : In64 T) (h : Wr W0 p w s) :
    Calls Try.prog 22 #[.pointer (some ⟨p, 0, none⟩), .agg #[.int .i64 x.F, .int .i64 x.T, .int .i64 x.V, .int .i64 x.P, .int .i64 x.C, .int .i64 F, .int .i64 T]] w (Wrote W0 p w (put s (e_piece x F T))) := by
  have hz := h.z
  go_enter Try.func22, Try.ntmps22
  go_wp2_with fail
  refine (wseg W0 _ p _ x hx (h.alloc _)).mono ?_
  rintro e w1 ⟨rfl, H, K⟩
  have H1 : Hid (Wr W0 p w1 _) := H
  have K1 : Hid (KP p w w1) := ((KP.refl p w).trans (KP.alloc p _ _)).trans K
  have X0_1 : Hid (BxA w1 (w.heap.size) 40 #[.int .i64 x.F, .int .i64 x.T, .int .i64 x.V, .int .i64 x.P, .int .i64 x.C, .int .i64 F, .int .i64 T]) := ((BxA.new _ 40 #[.int .i64 x.F, .int .i64 x.T, .int .i64 x.V, .int .i64 x.P, .int .i64 x.C, .int .i64 F, .int .i64 T])).kp K (by omega) (by decide)
  clear H K
  have q0_0 : w1.cell? ⟨w.heap.size, 0, none⟩ = some (.int .i64 x.F) := X0_1.out.cell 0 _ rfl
  have q0_1 : w1.cell? ⟨w.heap.size, 1, none⟩ = some (.int .i64 x.T) := X0_1.out.cell 1 _ rfl
  have q0_2 : w1.cell? ⟨w.heap.size, 2, none⟩ = some (.int .i64 x.V) := X0_1.out.cell 2 _ rfl
  have q0_3 : w1.cell? ⟨w.heap.size, 3, none⟩ = some (.int .i64 x.P) := X0_1.out.cell 3 _ rfl
  have q0_4 : w1.cell? ⟨w.heap.size, 4, none⟩ = some (.int .i64 x.C) := X0_1.out.cell 4 _ rfl
  have q0_5 : w1.cell? ⟨w.heap.size, 5, none⟩ = some (.int .i64 F) := X0_1.out.cell 5 _ rfl
  have q0_6 : w1.cell? ⟨w.heap.size, 6, none⟩ = some (.int .i64 T) := X0_1.out.cell 6 _ rfl
  go_wp2_with fail
  clear q0_0 q0_1 q0_2 q0_3 q0_4 q0_5 q0_6
  refine (wspan W0 w1 p _ F T h1 h2 H1.out).mono ?_
  rintro e w2 ⟨rfl, H, K⟩
  have H2 : Hid (Wr W0 p w2 _) := H
  have K2 : Hid (KP p w w2) := K1.out.trans K
  have X0_2 : Hid (BxA w2 (w.heap.size) 40 #[.int .i64 x.F, .int .i64 x.T, .int .i64 x.V, .int .i64 x.P, .int .i64 x.C, .int .i64 F, .int .i64 T]) := X0_1.out.kp K (by omega) (by decide)
  clear H K
  go_wp2_with fail
  go_end0
  refine ⟨rfl, ?_, K2.out⟩
  have := H2.out
  simpa only [put_put, cat_assoc, e_int, e_u, e_bool, e_piece] using this
def e_order (d : Bool) (x : Sg) (n : Int) : Option Bs := cat (e_bool d) (cat (e_seg x) (e_int n))
set_option maxRecDepth 100000 in
set_option maxHeartbeats 3200000 in
theorem worder (W0 w : World) (p : Nat) (s : Option Bs) (d : Bool) (x : Sg) (n : Int) (hx : x.In) (h1 : In64 n) (h : Wr W0 p w s) :
    Calls Try.prog 23 #[.pointer (some ⟨p, 0, none⟩), .agg #[.bool d, .int .i64 x.F, .int .i64 x.T, .int .i64 x.V, .int .i64 x.P, .int .i64 x.C, .int .i64 n]] w (Wrote W0 p w (put s (e_order d x n))) := by
  have hz := h.z
  go_enter Try.func23, Try.ntmps23
  go_wp2_with fail
  refine (wyes W0 _ p d _ (h.alloc _)).mono ?_
  rintro e w1 ⟨rfl, H, K⟩
  have H1 : Hid (Wr W0 p w1 _) := H
  have K1 : Hid (KP p w w1) := ((KP.refl p w).trans (KP.alloc p _ _)).trans K
  have X0_1 : Hid (BxA w1 (w.heap.size) 42 #[.bool d, .int .i64 x.F, .int .i64 x.T, .int .i64 x.V, .int .i64 x.P, .int .i64 x.C, .int .i64 n]) := ((BxA.new _ 42 #[.bool d, .int .i64 x.F, .int .i64 x.T, .int .i64 x.V, .int .i64 x.P, .int .i64 x.C, .int .i64 n])).kp K (by omega) (by decide)
  clear H K
  have q0_0 : w1.cell? ⟨w.heap.size, 0, none⟩ = some (.bool d) := X0_1.out.cell 0 _ rfl
  have q0_1 : w1.cell? ⟨w.heap.size, 1, none⟩ = some (.int .i64 x.F) := X0_1.out.cell 1 _ rfl
  have q0_2 : w1.cell? ⟨w.heap.size, 2, none⟩ = some (.int .i64 x.T) := X0_1.out.cell 2 _ rfl
  have q0_3 : w1.cell? ⟨w.heap.size, 3, none⟩ = some (.int .i64 x.V) := X0_1.out.cell 3 _ rfl
  have q0_4 : w1.cell? ⟨w.heap.size, 4, none⟩ = some (.int .i64 x.P) := X0_1.out.cell 4 _ rfl
  have q0_5 : w1.cell? ⟨w.heap.size, 5, none⟩ = some (.int .i64 x.C) := X0_1.out.cell 5 _ rfl
  have q0_6 : w1.cell? ⟨w.heap.size, 6, none⟩ = some (.int .i64 n) := X0_1.out.cell 6 _ rfl
  go_wp2_with fail
  clear q0_0 q0_1 q0_2 q0_3 q0_4 q0_5 q0_6
  refine (wseg W0 w1 p _ x hx H1.out).mono ?_
  rintro e w2 ⟨rfl, H, K⟩
  have H2 : Hid (Wr W0 p w2 _) := H
  have K2 : Hid (KP p w w2) := K1.out.trans K
  have X0_2 : Hid (BxA w2 (w.heap.size) 42 #[.bool d, .int .i64 x.F, .int .i64 x.T, .int .i64 x.V, .int .i64 x.P, .int .i64 x.C, .int .i64 n]) := X0_1.out.kp K (by omega) (by decide)
  clear H K
  have q0_0 : w2.cell? ⟨w.heap.size, 0, none⟩ = some (.bool d) := X0_2.out.cell 0 _ rfl
  have q0_1 : w2.cell? ⟨w.heap.size, 1, none⟩ = some (.int .i64 x.F) := X0_2.out.cell 1 _ rfl
  have q0_2 : w2.cell? ⟨w.heap.size, 2, none⟩ = some (.int .i64 x.T) := X0_2.out.cell 2 _ rfl
  have q0_3 : w2.cell? ⟨w.heap.size, 3, none⟩ = some (.int .i64 x.V) := X0_2.out.cell 3 _ rfl
  have q0_4 : w2.cell? ⟨w.heap.size, 4, none⟩ = some (.int .i64 x.P) := X0_2.out.cell 4 _ rfl
  have q0_5 : w2.cell? ⟨w.heap.size, 5, none⟩ = some (.int .i64 x.C) := X0_2.out.cell 5 _ rfl
  have q0_6 : w2.cell? ⟨w.heap.size, 6, none⟩ = some (.int .i64 n) := X0_2.out.cell 6 _ rfl
  go_wp2_with fail
  clear q0_0 q0_1 q0_2 q0_3 q0_4 q0_5 q0_6
  refine (wwhole W0 w2 p n _ H2.out h1.1 h1.2).mono ?_
  rintro e w3 ⟨rfl, H, K⟩
  have H3 : Hid (Wr W0 p w3 _) := H
  have K3 : Hid (KP p w w3) := K2.out.trans K
  have X0_3 : Hid (BxA w3 (w.heap.size) 42 #[.bool d, .int .i64 x.F, .int .i64 x.T, .int .i64 x.V, .int .i64 x.P, .int .i64 x.C, .int .i64 n]) := X0_2.out.kp K (by omega) (by decide)
  clear H K
  go_wp2_with fail
  go_end0
  refine ⟨rfl, ?_, K3.out⟩
  have := H3.out
  simpa only [put_put, cat_assoc, e_int, e_u, e_bool, e_order] using this
def e_agg (x : Int × Int) : Option Bs := cat (e_int x.1) (e_int x.2)
set_option maxRecDepth 100000 in
set_option maxHeartbeats 3200000 in
theorem wagg (W0 w : World) (p : Nat) (s : Option Bs) (x : Int × Int) (h1 : In64 x.1) (h2 : In64 x.2) (h : Wr W0 p w s) :
    Calls Try.prog 86 #[.pointer (some ⟨p, 0, none⟩), .agg #[.int .i64 x.1, .int .i64 x.2]] w (Wrote W0 p w (put s (e_agg x))) := by
  have hz := h.z
  go_enter Try.func86, Try.ntmps86
  go_wp2_with fail
  refine (wwhole W0 _ p x.1 _ (h.alloc _) h1.1 h1.2).mono ?_
  rintro e w1 ⟨rfl, H, K⟩
  have H1 : Hid (Wr W0 p w1 _) := H
  have K1 : Hid (KP p w w1) := ((KP.refl p w).trans (KP.alloc p _ _)).trans K
  have X0_1 : Hid (BxA w1 (w.heap.size) 128 #[.int .i64 x.1, .int .i64 x.2]) := ((BxA.new _ 128 #[.int .i64 x.1, .int .i64 x.2])).kp K (by omega) (by decide)
  clear H K
  have q0_0 : w1.cell? ⟨w.heap.size, 0, none⟩ = some (.int .i64 x.1) := X0_1.out.cell 0 _ rfl
  have q0_1 : w1.cell? ⟨w.heap.size, 1, none⟩ = some (.int .i64 x.2) := X0_1.out.cell 1 _ rfl
  go_wp2_with fail
  clear q0_0 q0_1
  refine (wwhole W0 w1 p x.2 _ H1.out h2.1 h2.2).mono ?_
  rintro e w2 ⟨rfl, H, K⟩
  have H2 : Hid (Wr W0 p w2 _) := H
  have K2 : Hid (KP p w w2) := K1.out.trans K
  have X0_2 : Hid (BxA w2 (w.heap.size) 128 #[.int .i64 x.1, .int .i64 x.2]) := X0_1.out.kp K (by omega) (by decide)
  clear H K
  go_wp2_with fail
  go_end0
  refine ⟨rfl, ?_, K2.out⟩
  have := H2.out
  simpa only [put_put, cat_assoc, e_int, e_u, e_bool, e_agg] using this
def e_prt0 (n : Nat) (k : Int) (ts : List Fi.Str) : Option Bs := cat (e_u n) (cat (e_int k) (e_txt ts))
set_option maxRecDepth 100000 in
set_option maxHeartbeats 3200000 in
theorem wprt (W0 w : World) (p : Nat) (s : Option Bs) (n : Nat) (k : Int) (tv : Value) (ts : List Fi.Str) (h1 : InU n) (h2 : In64 k) (hr : Lst 1 cl_str W0 tv ts) (ht : Txs ts) (h : Wr W0 p w s) :
    Calls Try.prog 89 #[.pointer (some ⟨p, 0, none⟩), .agg #[.int .u64 (n : Nat), .int .i64 k, tv]] w (Wrote W0 p w (put s (e_prt0 n k ts))) := by
  obtain ⟨ao0, cap0, rfl, -, -⟩ := (hr).sl
  have hz := h.z
  go_enter Try.func89, Try.ntmps89
  go_wp2_with fail
  refine (wuint W0 _ p n _ (h.alloc _) h1).mono ?_
  rintro e w1 ⟨rfl, H, K⟩
  have H1 : Hid (Wr W0 p w1 _) := H
  have K1 : Hid (KP p w w1) := ((KP.refl p w).trans (KP.alloc p _ _)).trans K
  have X0_1 : Hid (BxA w1 (w.heap.size) 87 #[.int .u64 (n : Nat), .int .i64 k, .slice ao0 ts.length cap0]) := ((BxA.new _ 87 #[.int .u64 (n : Nat), .int .i64 k, .slice ao0 ts.length cap0])).kp K (by omega) (by decide)
  clear H K
  have q0_0 : w1.cell? ⟨w.heap.size, 0, none⟩ = some (.int .u64 (n : Nat)) := X0_1.out.cell 0 _ rfl
  have q0_1 : w1.cell? ⟨w.heap.size, 1, none⟩ = some (.int .i64 k) := X0_1.out.cell 1 _ rfl
  have q0_2 : w1.cell? ⟨w.heap.size, 2, none⟩ = some (.slice ao0 ts.length cap0) := X0_1.out.cell 2 _ rfl
  go_wp2_with fail
  clear q0_0 q0_1 q0_2
  refine (wint W0 w1 p k _ H1.out h2.1 h2.2).mono ?_
  rintro e w2 ⟨rfl, H, K⟩
  have H2 : Hid (Wr W0 p w2 _) := H
  have K2 : Hid (KP p w w2) := K1.out.trans K
  have X0_2 : Hid (BxA w2 (w.heap.size) 87 #[.int .u64 (n : Nat), .int .i64 k, .slice ao0 ts.length cap0]) := X0_1.out.kp K (by omega) (by decide)
  clear H K
  have q0_0 : w2.cell? ⟨w.heap.size, 0, none⟩ = some (.int .u64 (n : Nat)) := X0_2.out.cell 0 _ rfl
  have q0_1 : w2.cell? ⟨w.heap.size, 1, none⟩ = some (.int .i64 k) := X0_2.out.cell 1 _ rfl
  have q0_2 : w2.cell? ⟨w.heap.size, 2, none⟩ = some (.slice ao0 ts.length cap0) := X0_2.out.cell 2 _ rfl
  go_wp2_with fail
  clear q0_0 q0_1 q0_2
  refine (wtxts W0 w2 p _ _ ts H2.out hr ht).mono ?_
  rintro e w3 ⟨rfl, H, K⟩
  have H3 : Hid (Wr W0 p w3 _) := H
  have K3 : Hid (KP p w w3) := K2.out.trans K
  have X0_3 : Hid (BxA w3 (w.heap.size) 87 #[.int .u64 (n : Nat), .int .i64 k, .slice ao0 ts.length cap0]) := X0_2.out.kp K (by omega) (by decide)
  clear H K
  go_wp2_with fail
  go_end0
  refine ⟨rfl, ?_, K3.out⟩
  have := H3.out
  simpa only [put_put, cat_assoc, e_int, e_u, e_bool, e_prt0] using this
structure Pt.Ok (w : World) (x : Pt) : Prop where
  n : InU x.n
  v : In64 x.v
  r : Lst 1 cl_str w x.tv x.ts
  t : Txs x.ts
def e_prt (x : Pt) : Option Bs := e_prt0 x.n x.v x.ts
theorem lst_sl {α : Type} {k : Nat} {f : α → List Value} {w : World} {v : Value} {l : List α} (h : Lst k f w v l) : ∃ a n c, v = .slice a n c := by obtain ⟨a, c, e, _⟩ := h.sl; exact ⟨a, _, c, e⟩
theorem wprts (W0 w : World) (p : Nat) (s : Option Bs) (v : Value) (l : List Pt) (h : Wr W0 p w s) (hr : Lst 3 cl_prt W0 v l) (ho : ∀ x ∈ l, x.Ok W0) :
    Calls Try.prog 88 #[.pointer (some ⟨p, 0, none⟩), v, .func (.func 89) #[.pointer (some ⟨p, 0, none⟩)] #[]] w (Wrote W0 p w (put s (el e_prt l))) :=
  wl_prt W0 w p s v l _ (fun x hx => lst_sl (ho x hx).r) h hr fun x hm wr s _ h => wprt W0 wr p s x.n x.v x.tv x.ts (ho x hm).n (ho x hm).v (ho x hm).r (ho x hm).t h
theorem wsegs (W0 w : World) (p : Nat) (s : Option Bs) (v : Value) (l : List Sg) (h : Wr W0 p w s) (hr : Lst 5 cl_seg W0 v l) (ho : ∀ x ∈ l, x.In) :
    Calls Try.prog 24 #[.pointer (some ⟨p, 0, none⟩), v, .func (.func 25) #[.pointer (some ⟨p, 0, none⟩)] #[]] w (Wrote W0 p w (put s (el e_seg l))) :=
  wl_seg W0 w p s v l _ h hr fun x hm wr s _ h => wseg W0 wr p s x (ho x hm) h
theorem waggs (W0 w : World) (p : Nat) (s : Option Bs) (v : Value) (l : List (Int × Int)) (h : Wr W0 p w s) (hr : Lst 2 cl_agg W0 v l) (ho : ∀ x ∈ l, In64 x.1 ∧ In64 x.2) :
    Calls Try.prog 85 #[.pointer (some ⟨p, 0, none⟩), v, .func (.func 86) #[.pointer (some ⟨p, 0, none⟩)] #[]] w (Wrote W0 p w (put s (el e_agg l))) :=
  wl_agg W0 w p s v l _ h hr fun x hm wr s _ h => wagg W0 wr p s x (ho x hm).1 (ho x hm).2 h
def e_grp0 (a b : Int) (ds : List Fi.Str) (ps : List Pt) : Option Bs := cat (e_int a) (cat (e_int b) (cat (e_txt ds) (el e_prt ps)))
set_option maxRecDepth 100000 in
set_option maxHeartbeats 3200000 in
theorem wgrp (W0 w : World) (p : Nat) (s : Option Bs) (a b : Int) (dv : Value) (ds : List Fi.Str) (pv : Value) (ps : List Pt) (h1 : In64 a) (h2 : In64 b) (hr : Lst 1 cl_str W0 dv ds) (ht : Txs ds) (hp : Lst 3 cl_prt W0 pv ps) (ho : ∀ x ∈ ps, x.Ok W0) (h : Wr W0 p w s) :
    Calls Try.prog 27 #[.pointer (some ⟨p, 0, none⟩), .agg #[.int .i64 a, .int .i64 b, dv, pv]] w (Wrote W0 p w (put s (e_grp0 a b ds ps))) := by
  obtain ⟨ao0, cap0, rfl, -, -⟩ := (hr).sl
  obtain ⟨ao1, cap1, rfl, -, -⟩ := (hp).sl
  have hz := h.z
  go_enter Try.func27, Try.ntmps27
  go_wp2_with fail
  refine (wwhole W0 _ p a _ (h.alloc _) h1.1 h1.2).mono ?_
  rintro e w1 ⟨rfl, H, K⟩
  have H1 : Hid (Wr W0 p w1 _) := H
  have K1 : Hid (KP p w w1) := ((KP.refl p w).trans (KP.alloc p _ _)).trans K
  have X0_1 : Hid (BxA w1 (w.heap.size) 77 #[.int .i64 a, .int .i64 b, .slice ao0 ds.length cap0, .slice ao1 ps.length cap1]) := ((BxA.new _ 77 #[.int .i64 a, .int .i64 b, .slice ao0 ds.length cap0, .slice ao1 ps.length cap1])).kp K (by omega) (by decide)
  clear H K
  have q0_0 : w1.cell? ⟨w.heap.size, 0, none⟩ = some (.int .i64 a) := X0_1.out.cell 0 _ rfl
  have q0_1 : w1.cell? ⟨w.heap.size, 1, none⟩ = some (.int .i64 b) := X0_1.out.cell 1 _ rfl
  have q0_2 : w1.cell? ⟨w.heap.size, 2, none⟩ = some (.slice ao0 ds.length cap0) := X0_1.out.cell 2 _ rfl
  have q0_3 : w1.cell? ⟨w.heap.size, 3, none⟩ = some (.slice ao1 ps.length cap1) := X0_1.out.cell 3 _ rfl
  go_wp2_with fail
  clear q0_0 q0_1 q0_2 q0_3
  refine (wint W0 w1 p b _ H1.out h2.1 h2.2).mono ?_
  rintro e w2 ⟨rfl, H, K⟩
  have H2 : Hid (Wr W0 p w2 _) := H
  have K2 : Hid (KP p w w2) := K1.out.trans K
  have X0_2 : Hid (BxA w2 (w.heap.size) 77 #[.int .i64 a, .int .i64 b, .slice ao0 ds.length cap0, .slice ao1 ps.length cap1]) := X0_1.out.kp K (by omega) (by decide)
  clear H K
  have q0_0 : w2.cell? ⟨w.heap.size, 0, none⟩ = some (.int .i64 a) := X0_2.out.cell 0 _ rfl
  have q0_1 : w2.cell? ⟨w.heap.size, 1, none⟩ = some (.int .i64 b) := X0_2.out.cell 1 _ rfl
  have q0_2 : w2.cell? ⟨w.heap.size, 2, none⟩ = some (.slice ao0 ds.length cap0) := X0_2.out.cell 2 _ rfl
  have q0_3 : w2.cell? ⟨w.heap.size, 3, none⟩ = some (.slice ao1 ps.length cap1) := X0_2.out.cell 3 _ rfl
  go_wp2_with fail
  clear q0_0 q0_1 q0_2 q0_3
  refine (wtxts W0 w2 p _ _ ds H2.out hr ht).mono ?_
  rintro e w3 ⟨rfl, H, K⟩
  have H3 : Hid (Wr W0 p w3 _) := H
  have K3 : Hid (KP p w w3) := K2.out.trans K
  have X0_3 : Hid (BxA w3 (w.heap.size) 77 #[.int .i64 a, .int .i64 b, .slice ao0 ds.length cap0, .slice ao1 ps.length cap1]) := X0_2.out.kp K (by omega) (by decide)
  clear H K
  have q0_0 : w3.cell? ⟨w.heap.size, 0, none⟩ = some (.int .i64 a) := X0_3.out.cell 0 _ rfl
  have q0_1 : w3.cell? ⟨w.heap.size, 1, none⟩ = some (.int .i64 b) := X0_3.out.cell 1 _ rfl
  have q0_2 : w3.cell? ⟨w.heap.size, 2, none⟩ = some (.slice ao0 ds.length cap0) := X0_3.out.cell 2 _ rfl
  have q0_3 : w3.cell? ⟨w.heap.size, 3, none⟩ = some (.slice ao1 ps.length cap1) := X0_3.out.cell 3 _ rfl
  go_wp2_with fail
  clear q0_0 q0_1 q0_2 q0_3
  refine (wprts W0 w3 p _ _ ps H3.out hp ho).mono ?_
  rintro e w4 ⟨rfl, H, K⟩
  have H4 : Hid (Wr W0 p w4 _) := H
  have K4 : Hid (KP p w w4) := K3.out.trans K
  have X0_4 : Hid (BxA w4 (w.heap.size) 77 #[.int .i64 a, .int .i64 b, .slice ao0 ds.length cap0, .slice ao1 ps.length cap1]) := X0_3.out.kp K (by omega) (by decide)
  clear H K
  go_wp2_with fail
  go_end0
  refine ⟨rfl, ?_, K4.out⟩
  have := H4.out
  simpa only [put_put, cat_assoc, e_int, e_u, e_bool, e_grp0] using this
structure Gp.Ok (w : World) (x : Gp) : Prop where
  s : In64 x.s
  b : In64 x.b
  r : Lst 1 cl_str w x.dv x.ds
  t : Txs x.ds
  p : Lst 3 cl_prt w x.pv x.ps
  o : ∀ y ∈ x.ps, y.Ok w
def e_grp (x : Gp) : Option Bs := e_grp0 x.s x.b x.ds x.ps
theorem wgrps (W0 w : World) (p : Nat) (s : Option Bs) (v : Value) (l : List Gp) (h : Wr W0 p w s) (hr : Lst 4 cl_grp W0 v l) (ho : ∀ x ∈ l, x.Ok W0) :
    Calls Try.prog 26 #[.pointer (some ⟨p, 0, none⟩), v, .func (.func 27) #[.pointer (some ⟨p, 0, none⟩)] #[]] w (Wrote W0 p w (put s (el e_grp l))) :=
  wl_grp W0 w p s v l _ (fun x hx => ⟨lst_sl (ho x hx).r, lst_sl (ho x hx).p⟩) h hr fun x hm wr s _ h => wgrp W0 wr p s x.s x.b x.dv x.ds x.pv x.ps (ho x hm).s (ho x hm).b (ho x hm).r (ho x hm).t (ho x hm).p (ho x hm).o h
def e_fact (t : Int) (ds : List Fi.Str) (ms : List Int) : Option Bs := cat (e_int t) (cat (e_txt ds) (el e_int ms))
set_option maxRecDepth 100000 in
set_option maxHeartbeats 3200000 in
theorem wfact (W0 w : World) (p : Nat) (s : Option Bs) (t : Int) (dv : Value) (ds : List Fi.Str) (mv : Value) (ms : List Int) (h1 : In64 t) (hr : Lst 1 cl_str W0 dv ds) (ht : Txs ds) (hm : Lst 1 cl_i64 W0 mv ms) (ho : Zs ms) (h : Wr W0 p w s) :
    Calls Try.prog 20 #[.pointer (some ⟨p, 0, none⟩), .agg #[.int .i64 t, dv, mv]] w (Wrote W0 p w (put s (e_fact t ds ms))) := by
  obtain ⟨ao0, cap0, rfl, -, -⟩ := (hr).sl
  obtain ⟨ao1, cap1, rfl, -, -⟩ := (hm).sl
  have hz := h.z
  go_enter Try.func20, Try.ntmps20
  go_wp2_with fail
  refine (wint W0 _ p t _ (h.alloc _) h1.1 h1.2).mono ?_
  rintro e w1 ⟨rfl, H, K⟩
  have H1 : Hid (Wr W0 p w1 _) := H
  have K1 : Hid (KP p w w1) := ((KP.refl p w).trans (KP.alloc p _ _)).trans K
  have X0_1 : Hid (BxA w1 (w.heap.size) 27 #[.int .i64 t, .slice ao0 ds.length cap0, .slice ao1 ms.length cap1]) := ((BxA.new _ 27 #[.int .i64 t, .slice ao0 ds.length cap0, .slice ao1 ms.length cap1])).kp K (by omega) (by decide)
  clear H K
  have q0_0 : w1.cell? ⟨w.heap.size, 0, none⟩ = some (.int .i64 t) := X0_1.out.cell 0 _ rfl
  have q0_1 : w1.cell? ⟨w.heap.size, 1, none⟩ = some (.slice ao0 ds.length cap0) := X0_1.out.cell 1 _ rfl
  have q0_2 : w1.cell? ⟨w.heap.size, 2, none⟩ = some (.slice ao1 ms.length cap1) := X0_1.out.cell 2 _ rfl
  go_wp2_with fail
  clear q0_0 q0_1 q0_2
  refine (wtxts W0 w1 p _ _ ds H1.out hr ht).mono ?_
  rintro e w2 ⟨rfl, H, K⟩
  have H2 : Hid (Wr W0 p w2 _) := H
  have K2 : Hid (KP p w w2) := K1.out.trans K
  have X0_2 : Hid (BxA w2 (w.heap.size) 27 #[.int .i64 t, .slice ao0 ds.length cap0, .slice ao1 ms.length cap1]) := X0_1.out.kp K (by omega) (by decide)
  clear H K
  have q0_0 : w2.cell? ⟨w.heap.size, 0, none⟩ = some (.int .i64 t) := X0_2.out.cell 0 _ rfl
  have q0_1 : w2.cell? ⟨w.heap.size, 1, none⟩ = some (.slice ao0 ds.length cap0) := X0_2.out.cell 1 _ rfl
  have q0_2 : w2.cell? ⟨w.heap.size, 2, none⟩ = some (.slice ao1 ms.length cap1) := X0_2.out.cell 2 _ rfl
  go_wp2_with fail
  clear q0_0 q0_1 q0_2
  refine (wi64s W0 w2 p _ _ ms H2.out hm ho).mono ?_
  rintro e w3 ⟨rfl, H, K⟩
  have H3 : Hid (Wr W0 p w3 _) := H
  have K3 : Hid (KP p w w3) := K2.out.trans K
  have X0_3 : Hid (BxA w3 (w.heap.size) 27 #[.int .i64 t, .slice ao0 ds.length cap0, .slice ao1 ms.length cap1]) := X0_2.out.kp K (by omega) (by decide)
  clear H K
  go_wp2_with fail
  go_end0
  refine ⟨rfl, ?_, K3.out⟩
  have := H3.out
  simpa only [put_put, cat_assoc, e_int, e_u, e_bool, e_fact] using this
/-- A filter's bytes: none, if it is deeper than may be. -/
def e_fil : Nat → Fi.Tr → Option Bs
  | 0, _ => none
  | n + 1, t => cat (e_int t.k) (cat (e_int t.d) (cat (e_txt t.ts) (cat (e_int t.lo) (cat (e_int t.hi) (el (e_fil n) t.ks)))))
theorem e_fil_succ (n : Nat) (t : Fi.Tr) : e_fil (n + 1) t = cat (e_int t.k) (cat (e_int t.d) (cat (e_txt t.ts) (cat (e_int t.lo) (cat (e_int t.hi) (el (e_fil n) t.ks))))) := rfl
/-- Its numbers and texts can be, all the way down. -/
inductive TrIn : Fi.Tr → Prop
  | mk {t : Fi.Tr} (k : In64 t.k) (d : In64 t.d) (lo : In64 t.lo) (hi : In64 t.hi) (ts : Txs t.ts) (h : ∀ c ∈ t.ks, TrIn c) : TrIn t
theorem TrIn.out {t : Fi.Tr} (h : TrIn t) : In64 t.k ∧ In64 t.d ∧ In64 t.lo ∧ In64 t.hi ∧ Txs t.ts ∧ ∀ c ∈ t.ks, TrIn c := by cases h; exact ⟨by assumption, by assumption, by assumption, by assumption, by assumption, by assumption⟩
theorem tr_lst {w : World} {t : Fi.Tr} (h : t.Ok w) : Lst 6 cl_fil w t.kv t.ks := h.rk
def Fil (n d : Nat) : Prop := ∀ (W0 w : World) (p : Nat) (s : Option Bs) (k dd : Int) (tv : Value) (ts : List Fi.Str) (lo hi : Int) (kv : Value) (ks : List Fi.Tr), (Fi.Tr.mk k dd tv ts lo hi kv ks).Ok W0 → TrIn (Fi.Tr.mk k dd tv ts lo hi kv ks) → Wr W0 p w s →
  Calls Try.prog 81 #[.pointer (some ⟨p, 0, none⟩), .agg #[.int .i64 k, .int .i64 dd, tv, .int .i64 lo, .int .i64 hi, kv], .int .i64 d] w (Wrote W0 p w (put s (e_fil n (Fi.Tr.mk k dd tv ts lo hi kv ks))))
set_option maxHeartbeats 1600000 in
theorem fil_deep (d : Nat) (hd : d = 21) : Fil 0 d := by
  intro W0 w p s k dd tv ts lo hi kv ks ho _ h
  obtain ⟨a1, n1, c1, e1⟩ := lst_sl (rds_lst ho.rt)
  obtain ⟨a2, n2, c2, e2⟩ := lst_sl (tr_lst ho)
  change tv = _ at e1
  change kv = _ at e2
  subst e1 e2 hd
  obtain ⟨hp, b, z, v, l, c0, cc1, f0, f1, o, hx⟩ := ((h.alloc (.cells #[.pointer (some ⟨p, 0, none⟩)] 62)).alloc (.cells #[.int .i64 k, .int .i64 dd, .slice a1 n1 c1, .int .i64 lo, .int .i64 hi, .slice a2 n2 c2] 32)).alloc (.cells #[.int .i64 21] 3)
  clear hp hx
  go_enter Try.func81, Try.ntmps81
  go_wp2_with fail
  go_end0
  refine ⟨rfl, ?_, ((((KP.refl p w).trans (KP.alloc p _ _)).trans (KP.alloc p _ _)).trans (KP.alloc p _ _)).trans (KP.set p 1 _ _)⟩
  rw [show e_fil 0 (Fi.Tr.mk k dd (.slice a1 n1 c1) ts lo hi (.slice a2 n2 c2) ks) = none from rfl, put_none']
  exact (((h.alloc _).alloc _).alloc _).over
/-- filter's closure. -/
theorem fil_clo (n d : Nat) (hd : d < 21) (hf : Fil n (d + 1)) (W0 w : World) (p bx bd : Nat) (s : Option Bs) (x : Fi.Tr) (ho : x.Ok W0) (hi : TrIn x) (h : Wr W0 p w s) (hb : BxA w bx 62 #[.pointer (some ⟨p, 0, none⟩)]) (hbd : BxA w bd 3 #[.int .i64 d]) :
    Calls Try.prog 113 #[.agg #[.int .i64 x.k, .int .i64 x.d, x.tv, .int .i64 x.lo, .int .i64 x.hi, x.kv], .pointer (some ⟨bx, 0, none⟩), .pointer (some ⟨bd, 0, none⟩)] w (Wrote W0 p w (put s (e_fil n x))) := by
  cases x with
  | mk k dd tv ts lo hi' kv ks =>
  simp only [Fi.Tr.k, Fi.Tr.d, Fi.Tr.tv, Fi.Tr.lo, Fi.Tr.hi, Fi.Tr.kv]
  have q0 := hb.cell 0 _ rfl
  have q1 := hbd.cell 0 _ rfl
  have z0 : bx < w.heap.size := (Array.getElem?_eq_some_iff.1 hb).1
  have z1 : bd < w.heap.size := (Array.getElem?_eq_some_iff.1 hbd).1
  have kF := hf W0 (w.alloc (.cells #[.int .i64 k, .int .i64 dd, tv, .int .i64 lo, .int .i64 hi', kv] 32)) p s k dd tv ts lo hi' kv ks ho hi (h.alloc _)
  obtain ⟨a1, n1, c1, e1⟩ := lst_sl (rds_lst ho.rt)
  obtain ⟨a2, n2, c2, e2⟩ := lst_sl (tr_lst ho)
  change tv = _ at e1
  change kv = _ at e2
  subst e1 e2
  clear ho hi hf hb hbd
  go_enter Try.func113, Try.ntmps113
  go_wp2_with fail
  refine kF.mono ?_
  rintro e w2 ⟨rfl, H, K⟩
  go_wp2_with fail
  go_end0
  exact ⟨rfl, H, (KP.alloc p _ _).trans K⟩
set_option maxRecDepth 100000 in
set_option maxHeartbeats 3200000 in
theorem fil_step (W0 w : World) (p : Nat) (s : Option Bs) (n d : Nat) (hd : d + n = 20) (hf : Fil n (d + 1)) (k dd : Int) (tv : Value) (ts : List Fi.Str) (lo hi : Int) (kv : Value) (ks : List Fi.Tr) (h1 : In64 k) (h2 : In64 dd) (h3 : In64 lo) (h4 : In64 hi) (ht : Txs ts) (hr : Lst 1 cl_str W0 tv ts) (hk : Lst 6 cl_fil W0 kv ks) (ho : ∀ x ∈ ks, x.Ok W0) (hin : ∀ x ∈ ks, TrIn x) (h : Wr W0 p w s) :
    Calls Try.prog 81 #[.pointer (some ⟨p, 0, none⟩), .agg #[.int .i64 k, .int .i64 dd, tv, .int .i64 lo, .int .i64 hi, kv], .int .i64 d] w (Wrote W0 p w (put s (cat (e_int k) (cat (e_int dd) (cat (e_txt ts) (cat (e_int lo) (cat (e_int hi) (el (e_fil n) ks)))))))) := by
  obtain ⟨ao0, cap0, rfl, -, -⟩ := (hr).sl
  obtain ⟨ao1, cap1, rfl, -, -⟩ := (hk).sl
  have hd1 : ¬ (20 : Int) < (d : Int) := by omega
  have hz := h.z
  go_enter Try.func81, Try.ntmps81
  go_wp2_with fail
  refine (wwhole W0 _ p k _ (((h.alloc _).alloc _).alloc _) h1.1 h1.2).mono ?_
  rintro e w1 ⟨rfl, H, K⟩
  have H1 : Hid (Wr W0 p w1 _) := H
  have K1 : Hid (KP p w w1) := ((((KP.refl p w).trans (KP.alloc p _ _)).trans (KP.alloc p _ _)).trans (KP.alloc p _ _)).trans K
  have X0_1 : Hid (BxA w1 (w.heap.size) 62 #[.pointer (some ⟨p, 0, none⟩)]) := ((((BxA.new _ 62 #[.pointer (some ⟨p, 0, none⟩)]).kp (KP.alloc p _ _) (by simp; omega) (by decide)).kp (KP.alloc p _ _) (by simp; omega) (by decide))).kp K (by omega) (by decide)
  have X1_1 : Hid (BxA w1 (w.heap.size + 1) 32 #[.int .i64 k, .int .i64 dd, .slice ao0 ts.length cap0, .int .i64 lo, .int .i64 hi, .slice ao1 ks.length cap1]) := by have := (((BxA.new _ 32 #[.int .i64 k, .int .i64 dd, .slice ao0 ts.length cap0, .int .i64 lo, .int .i64 hi, .slice ao1 ks.length cap1]).kp (KP.alloc p _ _) (by simp; omega) (by decide))).kp K (by simp; omega) (by decide); apply hide; simpa using this
  have X2_1 : Hid (BxA w1 (w.heap.size + 1 + 1) 3 #[.int .i64 d]) := by have := ((BxA.new _ 3 #[.int .i64 d])).kp K (by simp; omega) (by decide); apply hide; simpa using this
  clear H K
  have q0_0 : w1.cell? ⟨w.heap.size, 0, none⟩ = some (.pointer (some ⟨p, 0, none⟩)) := X0_1.out.cell 0 _ rfl
  have q1_0 : w1.cell? ⟨w.heap.size + 1, 0, none⟩ = some (.int .i64 k) := X1_1.out.cell 0 _ rfl
  have q1_1 : w1.cell? ⟨w.heap.size + 1, 1, none⟩ = some (.int .i64 dd) := X1_1.out.cell 1 _ rfl
  have q1_2 : w1.cell? ⟨w.heap.size + 1, 2, none⟩ = some (.slice ao0 ts.length cap0) := X1_1.out.cell 2 _ rfl
  have q1_3 : w1.cell? ⟨w.heap.size + 1, 3, none⟩ = some (.int .i64 lo) := X1_1.out.cell 3 _ rfl
  have q1_4 : w1.cell? ⟨w.heap.size + 1, 4, none⟩ = some (.int .i64 hi) := X1_1.out.cell 4 _ rfl
  have q1_5 : w1.cell? ⟨w.heap.size + 1, 5, none⟩ = some (.slice ao1 ks.length cap1) := X1_1.out.cell 5 _ rfl
  have q2_0 : w1.cell? ⟨w.heap.size + 1 + 1, 0, none⟩ = some (.int .i64 d) := X2_1.out.cell 0 _ rfl
  go_wp2_with fail
  clear q0_0 q1_0 q1_1 q1_2 q1_3 q1_4 q1_5 q2_0
  refine (wwhole W0 w1 p dd _ H1.out h2.1 h2.2).mono ?_
  rintro e w2 ⟨rfl, H, K⟩
  have H2 : Hid (Wr W0 p w2 _) := H
  have K2 : Hid (KP p w w2) := K1.out.trans K
  have X0_2 : Hid (BxA w2 (w.heap.size) 62 #[.pointer (some ⟨p, 0, none⟩)]) := X0_1.out.kp K (by omega) (by decide)
  have X1_2 : Hid (BxA w2 (w.heap.size + 1) 32 #[.int .i64 k, .int .i64 dd, .slice ao0 ts.length cap0, .int .i64 lo, .int .i64 hi, .slice ao1 ks.length cap1]) := X1_1.out.kp K (by omega) (by decide)
  have X2_2 : Hid (BxA w2 (w.heap.size + 1 + 1) 3 #[.int .i64 d]) := X2_1.out.kp K (by omega) (by decide)
  clear H K
  have q0_0 : w2.cell? ⟨w.heap.size, 0, none⟩ = some (.pointer (some ⟨p, 0, none⟩)) := X0_2.out.cell 0 _ rfl
  have q1_0 : w2.cell? ⟨w.heap.size + 1, 0, none⟩ = some (.int .i64 k) := X1_2.out.cell 0 _ rfl
  have q1_1 : w2.cell? ⟨w.heap.size + 1, 1, none⟩ = some (.int .i64 dd) := X1_2.out.cell 1 _ rfl
  have q1_2 : w2.cell? ⟨w.heap.size + 1, 2, none⟩ = some (.slice ao0 ts.length cap0) := X1_2.out.cell 2 _ rfl
  have q1_3 : w2.cell? ⟨w.heap.size + 1, 3, none⟩ = some (.int .i64 lo) := X1_2.out.cell 3 _ rfl
  have q1_4 : w2.cell? ⟨w.heap.size + 1, 4, none⟩ = some (.int .i64 hi) := X1_2.out.cell 4 _ rfl
  have q1_5 : w2.cell? ⟨w.heap.size + 1, 5, none⟩ = some (.slice ao1 ks.length cap1) := X1_2.out.cell 5 _ rfl
  have q2_0 : w2.cell? ⟨w.heap.size + 1 + 1, 0, none⟩ = some (.int .i64 d) := X2_2.out.cell 0 _ rfl
  go_wp2_with fail
  clear q0_0 q1_0 q1_1 q1_2 q1_3 q1_4 q1_5 q2_0
  refine (wtxts W0 w2 p _ _ ts H2.out hr ht).mono ?_
  rintro e w3 ⟨rfl, H, K⟩
  have H3 : Hid (Wr W0 p w3 _) := H
  have K3 : Hid (KP p w w3) := K2.out.trans K
  have X0_3 : Hid (BxA w3 (w.heap.size) 62 #[.pointer (some ⟨p, 0, none⟩)]) := X0_2.out.kp K (by omega) (by decide)
  have X1_3 : Hid (BxA w3 (w.heap.size + 1) 32 #[.int .i64 k, .int .i64 dd, .slice ao0 ts.length cap0, .int .i64 lo, .int .i64 hi, .slice ao1 ks.length cap1]) := X1_2.out.kp K (by omega) (by decide)
  have X2_3 : Hid (BxA w3 (w.heap.size + 1 + 1) 3 #[.int .i64 d]) := X2_2.out.kp K (by omega) (by decide)
  clear H K
  have q0_0 : w3.cell? ⟨w.heap.size, 0, none⟩ = some (.pointer (some ⟨p, 0, none⟩)) := X0_3.out.cell 0 _ rfl
  have q1_0 : w3.cell? ⟨w.heap.size + 1, 0, none⟩ = some (.int .i64 k) := X1_3.out.cell 0 _ rfl
  have q1_1 : w3.cell? ⟨w.heap.size + 1, 1, none⟩ = some (.int .i64 dd) := X1_3.out.cell 1 _ rfl
  have q1_2 : w3.cell? ⟨w.heap.size + 1, 2, none⟩ = some (.slice ao0 ts.length cap0) := X1_3.out.cell 2 _ rfl
  have q1_3 : w3.cell? ⟨w.heap.size + 1, 3, none⟩ = some (.int .i64 lo) := X1_3.out.cell 3 _ rfl
  have q1_4 : w3.cell? ⟨w.heap.size + 1, 4, none⟩ = some (.int .i64 hi) := X1_3.out.cell 4 _ rfl
  have q1_5 : w3.cell? ⟨w.heap.size + 1, 5, none⟩ = some (.slice ao1 ks.length cap1) := X1_3.out.cell 5 _ rfl
  have q2_0 : w3.cell? ⟨w.heap.size + 1 + 1, 0, none⟩ = some (.int .i64 d) := X2_3.out.cell 0 _ rfl
  go_wp2_with fail
  clear q0_0 q1_0 q1_1 q1_2 q1_3 q1_4 q1_5 q2_0
  refine (wint W0 w3 p lo _ H3.out h3.1 h3.2).mono ?_
  rintro e w4 ⟨rfl, H, K⟩
  have H4 : Hid (Wr W0 p w4 _) := H
  have K4 : Hid (KP p w w4) := K3.out.trans K
  have X0_4 : Hid (BxA w4 (w.heap.size) 62 #[.pointer (some ⟨p, 0, none⟩)]) := X0_3.out.kp K (by omega) (by decide)
  have X1_4 : Hid (BxA w4 (w.heap.size + 1) 32 #[.int .i64 k, .int .i64 dd, .slice ao0 ts.length cap0, .int .i64 lo, .int .i64 hi, .slice ao1 ks.length cap1]) := X1_3.out.kp K (by omega) (by decide)
  have X2_4 : Hid (BxA w4 (w.heap.size + 1 + 1) 3 #[.int .i64 d]) := X2_3.out.kp K (by omega) (by decide)
  clear H K
  have q0_0 : w4.cell? ⟨w.heap.size, 0, none⟩ = some (.pointer (some ⟨p, 0, none⟩)) := X0_4.out.cell 0 _ rfl
  have q1_0 : w4.cell? ⟨w.heap.size + 1, 0, none⟩ = some (.int .i64 k) := X1_4.out.cell 0 _ rfl
  have q1_1 : w4.cell? ⟨w.heap.size + 1, 1, none⟩ = some (.int .i64 dd) := X1_4.out.cell 1 _ rfl
  have q1_2 : w4.cell? ⟨w.heap.size + 1, 2, none⟩ = some (.slice ao0 ts.length cap0) := X1_4.out.cell 2 _ rfl
  have q1_3 : w4.cell? ⟨w.heap.size + 1, 3, none⟩ = some (.int .i64 lo) := X1_4.out.cell 3 _ rfl
  have q1_4 : w4.cell? ⟨w.heap.size + 1, 4, none⟩ = some (.int .i64 hi) := X1_4.out.cell 4 _ rfl
  have q1_5 : w4.cell? ⟨w.heap.size + 1, 5, none⟩ = some (.slice ao1 ks.length cap1) := X1_4.out.cell 5 _ rfl
  have q2_0 : w4.cell? ⟨w.heap.size + 1 + 1, 0, none⟩ = some (.int .i64 d) := X2_4.out.cell 0 _ rfl
  go_wp2_with fail
  clear q0_0 q1_0 q1_1 q1_2 q1_3 q1_4 q1_5 q2_0
  refine (wint W0 w4 p hi _ H4.out h4.1 h4.2).mono ?_
  rintro e w5 ⟨rfl, H, K⟩
  have H5 : Hid (Wr W0 p w5 _) := H
  have K5 : Hid (KP p w w5) := K4.out.trans K
  have X0_5 : Hid (BxA w5 (w.heap.size) 62 #[.pointer (some ⟨p, 0, none⟩)]) := X0_4.out.kp K (by omega) (by decide)
  have X1_5 : Hid (BxA w5 (w.heap.size + 1) 32 #[.int .i64 k, .int .i64 dd, .slice ao0 ts.length cap0, .int .i64 lo, .int .i64 hi, .slice ao1 ks.length cap1]) := X1_4.out.kp K (by omega) (by decide)
  have X2_5 : Hid (BxA w5 (w.heap.size + 1 + 1) 3 #[.int .i64 d]) := X2_4.out.kp K (by omega) (by decide)
  clear H K
  have q0_0 : w5.cell? ⟨w.heap.size, 0, none⟩ = some (.pointer (some ⟨p, 0, none⟩)) := X0_5.out.cell 0 _ rfl
  have q1_0 : w5.cell? ⟨w.heap.size + 1, 0, none⟩ = some (.int .i64 k) := X1_5.out.cell 0 _ rfl
  have q1_1 : w5.cell? ⟨w.heap.size + 1, 1, none⟩ = some (.int .i64 dd) := X1_5.out.cell 1 _ rfl
  have q1_2 : w5.cell? ⟨w.heap.size + 1, 2, none⟩ = some (.slice ao0 ts.length cap0) := X1_5.out.cell 2 _ rfl
  have q1_3 : w5.cell? ⟨w.heap.size + 1, 3, none⟩ = some (.int .i64 lo) := X1_5.out.cell 3 _ rfl
  have q1_4 : w5.cell? ⟨w.heap.size + 1, 4, none⟩ = some (.int .i64 hi) := X1_5.out.cell 4 _ rfl
  have q1_5 : w5.cell? ⟨w.heap.size + 1, 5, none⟩ = some (.slice ao1 ks.length cap1) := X1_5.out.cell 5 _ rfl
  have q2_0 : w5.cell? ⟨w.heap.size + 1 + 1, 0, none⟩ = some (.int .i64 d) := X2_5.out.cell 0 _ rfl
  go_wp2_with fail
  clear q0_0 q1_0 q1_1 q1_2 q1_3 q1_4 q1_5 q2_0
  refine (wl_fil W0 w5 p _ _ ks (e_fil n) w.heap.size (w.heap.size + 1 + 1) (fun x hx => ⟨lst_sl (rds_lst (ho x hx).rt), lst_sl (tr_lst (ho x hx))⟩) H5.out hk (fun x hm wr s kp h => fil_clo n d (by omega) hf W0 wr p _ _ s x (ho x hm) (hin x hm) h (X0_5.out.kp kp (by omega) (by decide)) (X2_5.out.kp kp (by omega) (by decide)))).mono ?_
  rintro e w6 ⟨rfl, H, K⟩
  have H6 : Hid (Wr W0 p w6 _) := H
  have K6 : Hid (KP p w w6) := K5.out.trans K
  have X0_6 : Hid (BxA w6 (w.heap.size) 62 #[.pointer (some ⟨p, 0, none⟩)]) := X0_5.out.kp K (by omega) (by decide)
  have X1_6 : Hid (BxA w6 (w.heap.size + 1) 32 #[.int .i64 k, .int .i64 dd, .slice ao0 ts.length cap0, .int .i64 lo, .int .i64 hi, .slice ao1 ks.length cap1]) := X1_5.out.kp K (by omega) (by decide)
  have X2_6 : Hid (BxA w6 (w.heap.size + 1 + 1) 3 #[.int .i64 d]) := X2_5.out.kp K (by omega) (by decide)
  clear H K
  go_wp2_with fail
  go_end0
  refine ⟨rfl, ?_, K6.out⟩
  have := H6.out
  simpa only [put_put, cat_assoc, e_int, e_u, e_bool, e_fil] using this
theorem fil_any : ∀ (n d : Nat), d + n = 21 → Fil n d
  | 0, d, hd => fil_deep d (by omega)
  | n + 1, d, hd => by
    intro W0 w p s k dd tv ts lo hi kv ks ho hin h
    obtain ⟨i1, i2, i3, i4, i5, i6⟩ := hin.out
    exact fil_step W0 w p s n d (by omega) (fil_any n (d + 1) (by omega)) k dd tv ts lo hi kv ks i1 i2 i3 i4 i5 (rds_lst ho.rt) (tr_lst ho) ho.kid i6 h
/-- A query as it lies in memory. -/
structure Qw where
  F : Int
  T : Int
  t : Fi.Tr
  g : Int
  sv : Value
  ss : List (Value × List Int)
  av : Value
  ag : List (Int × Int)
  G : Int
  R : Int
structure Qw.Ok (w : World) (q : Qw) : Prop where
  f : In64 q.F
  e : In64 q.T
  t : q.t.Ok w
  i : TrIn q.t
  g : In64 q.g
  s : Lst 1 cl_set w q.sv q.ss
  z : ∀ x ∈ q.ss, Lst 1 cl_int w x.1 x.2 ∧ Zs x.2
  a : Lst 2 cl_agg w q.av q.ag
  b : ∀ x ∈ q.ag, In64 x.1 ∧ In64 x.2
  c : In64 q.G
  r : In64 q.R
def e_set (x : Value × List Int) : Option Bs := el e_int x.2
theorem wset (W0 w : World) (p bx : Nat) (s : Option Bs) (x : Value × List Int) (hx : Lst 1 cl_int W0 x.1 x.2) (hz : Zs x.2) (h : Wr W0 p w s) (hb : BxA w bx 62 #[.pointer (some ⟨p, 0, none⟩)]) :
    Calls Try.prog 83 #[x.1, .pointer (some ⟨bx, 0, none⟩)] w (Wrote W0 p w (put s (e_set x))) := by
  have q0 := hb.cell 0 _ rfl
  have z0 : bx < w.heap.size := (Array.getElem?_eq_some_iff.1 hb).1
  have kI := wints W0 w p s x.1 x.2 h hx hz
  obtain ⟨v, l⟩ := x
  simp only at kI hx ⊢
  obtain ⟨a1, c1, rfl, -, -⟩ := hx.sl
  clear hx hz hb
  go_enter Try.func83, Try.ntmps83
  go_wp2_with fail
  refine kI.mono ?_
  rintro e w2 ⟨rfl, H, K⟩
  go_wp2_with fail
  go_end0
  exact ⟨rfl, H, K⟩
theorem wfil (W0 w : World) (p : Nat) (s : Option Bs) (x : Fi.Tr) (ho : x.Ok W0) (hi : TrIn x) (h : Wr W0 p w s) :
    Calls Try.prog 81 #[.pointer (some ⟨p, 0, none⟩), .agg #[.int .i64 x.k, .int .i64 x.d, x.tv, .int .i64 x.lo, .int .i64 x.hi, x.kv], .int .i64 1] w (Wrote W0 p w (put s (e_fil 20 x))) := by
  cases x with
  | mk k dd tv ts lo hi' kv ks => exact fil_any 20 1 rfl W0 w p s k dd tv ts lo hi' kv ks ho hi h
def e_query (q : Qw) : Option Bs := cat (e_span q.F q.T) (cat (e_fil 20 q.t) (cat (e_int q.g) (cat (el e_set q.ss) (cat (el e_agg q.ag) (cat (e_int q.G) (e_int q.R))))))
set_option maxRecDepth 100000 in
set_option maxHeartbeats 3200000 in
theorem wquery (W0 w : World) (p : Nat) (s : Option Bs) (q : Qw) (hq : q.Ok W0) (h : Wr W0 p w s) :
    Calls Try.prog 21 #[.pointer (some ⟨p, 0, none⟩), .agg #[.int .i64 q.F, .int .i64 q.T, .int .i64 q.t.k, .int .i64 q.t.d, q.t.tv, .int .i64 q.t.lo, .int .i64 q.t.hi, q.t.kv, .int .i64 q.g, q.sv, q.av, .int .i64 q.G, .int .i64 q.R]] w (Wrote W0 p w (put s (e_query q))) := by
  obtain ⟨b0, m0, k0, e0⟩ := lst_sl (rds_lst hq.t.rt)
  obtain ⟨b1, m1, k1, e1⟩ := lst_sl (tr_lst hq.t)
  obtain ⟨b2, m2, k2, e2⟩ := lst_sl hq.s
  obtain ⟨b3, m3, k3, e3⟩ := lst_sl hq.a
  have kF : ∀ (w : World) (s : Option Bs), Wr W0 p w s → _ := fun w s h => wfil W0 w p s q.t hq.t hq.i h
  have kS : ∀ (w : World) (bx : Nat) (s : Option Bs), Wr W0 p w s → BxA w bx 62 #[.pointer (some ⟨p, 0, none⟩)] → bx ≠ p → _ := fun w bx s h hb hne => wl_set W0 w p s q.sv q.ss e_set bx (fun x hx => lst_sl (hq.z x hx).1) h hq.s (fun x hm wr s kp h => wset W0 wr p bx s x (hq.z x hm).1 (hq.z x hm).2 h (hb.kp kp hne (by decide)))
  have kA : ∀ (w : World) (s : Option Bs), Wr W0 p w s → _ := fun w s h => waggs W0 w p s q.av q.ag h hq.a hq.b
  rw [e0, e1] at kF
  rw [e2] at kS
  rw [e3] at kA
  rw [e0, e1, e2, e3]
  have HF : Aside _ := kF
  have HS : Aside _ := kS
  have HA : Aside _ := kA
  clear kF kS kA e0 e1 e2 e3
  have hz := h.z
  go_enter Try.func21, Try.ntmps21
  go_wp2_with fail
  refine (wspan W0 _ p _ q.F q.T hq.f hq.e ((h.alloc _).alloc _)).mono ?_
  rintro e w1 ⟨rfl, H, K⟩
  have H1 : Hid (Wr W0 p w1 _) := H
  have K1 : Hid (KP p w w1) := (((KP.refl p w).trans (KP.alloc p _ _)).trans (KP.alloc p _ _)).trans K
  have X0_1 : Hid (BxA w1 (w.heap.size) 62 #[.pointer (some ⟨p, 0, none⟩)]) := (((BxA.new _ 62 #[.pointer (some ⟨p, 0, none⟩)]).kp (KP.alloc p _ _) (by simp; omega) (by decide))).kp K (by omega) (by decide)
  have X1_1 : Hid (BxA w1 (w.heap.size + 1) 36 #[.int .i64 q.F, .int .i64 q.T, .int .i64 q.t.k, .int .i64 q.t.d, .slice b0 m0 k0, .int .i64 q.t.lo, .int .i64 q.t.hi, .slice b1 m1 k1, .int .i64 q.g, .slice b2 m2 k2, .slice b3 m3 k3, .int .i64 q.G, .int .i64 q.R]) := by have := ((BxA.new _ 36 #[.int .i64 q.F, .int .i64 q.T, .int .i64 q.t.k, .int .i64 q.t.d, .slice b0 m0 k0, .int .i64 q.t.lo, .int .i64 q.t.hi, .slice b1 m1 k1, .int .i64 q.g, .slice b2 m2 k2, .slice b3 m3 k3, .int .i64 q.G, .int .i64 q.R])).kp K (by simp; omega) (by decide); apply hide; simpa using this
  clear H K
  have q0_0 : w1.cell? ⟨w.heap.size, 0, none⟩ = some (.pointer (some ⟨p, 0, none⟩)) := X0_1.out.cell 0 _ rfl
  have q1_0 : w1.cell? ⟨w.heap.size + 1, 0, none⟩ = some (.int .i64 q.F) := X1_1.out.cell 0 _ rfl
  have q1_1 : w1.cell? ⟨w.heap.size + 1, 1, none⟩ = some (.int .i64 q.T) := X1_1.out.cell 1 _ rfl
  have q1_2 : w1.cell? ⟨w.heap.size + 1, 2, none⟩ = some (.int .i64 q.t.k) := X1_1.out.cell 2 _ rfl
  have q1_3 : w1.cell? ⟨w.heap.size + 1, 3, none⟩ = some (.int .i64 q.t.d) := X1_1.out.cell 3 _ rfl
  have q1_4 : w1.cell? ⟨w.heap.size + 1, 4, none⟩ = some (.slice b0 m0 k0) := X1_1.out.cell 4 _ rfl
  have q1_5 : w1.cell? ⟨w.heap.size + 1, 5, none⟩ = some (.int .i64 q.t.lo) := X1_1.out.cell 5 _ rfl
  have q1_6 : w1.cell? ⟨w.heap.size + 1, 6, none⟩ = some (.int .i64 q.t.hi) := X1_1.out.cell 6 _ rfl
  have q1_7 : w1.cell? ⟨w.heap.size + 1, 7, none⟩ = some (.slice b1 m1 k1) := X1_1.out.cell 7 _ rfl
  have q1_8 : w1.cell? ⟨w.heap.size + 1, 8, none⟩ = some (.int .i64 q.g) := X1_1.out.cell 8 _ rfl
  have q1_9 : w1.cell? ⟨w.heap.size + 1, 9, none⟩ = some (.slice b2 m2 k2) := X1_1.out.cell 9 _ rfl
  have q1_10 : w1.cell? ⟨w.heap.size + 1, 10, none⟩ = some (.slice b3 m3 k3) := X1_1.out.cell 10 _ rfl
  have q1_11 : w1.cell? ⟨w.heap.size + 1, 11, none⟩ = some (.int .i64 q.G) := X1_1.out.cell 11 _ rfl
  have q1_12 : w1.cell? ⟨w.heap.size + 1, 12, none⟩ = some (.int .i64 q.R) := X1_1.out.cell 12 _ rfl
  go_wp2_with fail
  clear q0_0 q1_0 q1_1 q1_2 q1_3 q1_4 q1_5 q1_6 q1_7 q1_8 q1_9 q1_10 q1_11 q1_12
  refine (HF.out w1 _ H1.out).mono ?_
  rintro e w2 ⟨rfl, H, K⟩
  have H2 : Hid (Wr W0 p w2 _) := H
  have K2 : Hid (KP p w w2) := K1.out.trans K
  have X0_2 : Hid (BxA w2 (w.heap.size) 62 #[.pointer (some ⟨p, 0, none⟩)]) := X0_1.out.kp K (by omega) (by decide)
  have X1_2 : Hid (BxA w2 (w.heap.size + 1) 36 #[.int .i64 q.F, .int .i64 q.T, .int .i64 q.t.k, .int .i64 q.t.d, .slice b0 m0 k0, .int .i64 q.t.lo, .int .i64 q.t.hi, .slice b1 m1 k1, .int .i64 q.g, .slice b2 m2 k2, .slice b3 m3 k3, .int .i64 q.G, .int .i64 q.R]) := X1_1.out.kp K (by omega) (by decide)
  clear H K
  have q0_0 : w2.cell? ⟨w.heap.size, 0, none⟩ = some (.pointer (some ⟨p, 0, none⟩)) := X0_2.out.cell 0 _ rfl
  have q1_0 : w2.cell? ⟨w.heap.size + 1, 0, none⟩ = some (.int .i64 q.F) := X1_2.out.cell 0 _ rfl
  have q1_1 : w2.cell? ⟨w.heap.size + 1, 1, none⟩ = some (.int .i64 q.T) := X1_2.out.cell 1 _ rfl
  have q1_2 : w2.cell? ⟨w.heap.size + 1, 2, none⟩ = some (.int .i64 q.t.k) := X1_2.out.cell 2 _ rfl
  have q1_3 : w2.cell? ⟨w.heap.size + 1, 3, none⟩ = some (.int .i64 q.t.d) := X1_2.out.cell 3 _ rfl
  have q1_4 : w2.cell? ⟨w.heap.size + 1, 4, none⟩ = some (.slice b0 m0 k0) := X1_2.out.cell 4 _ rfl
  have q1_5 : w2.cell? ⟨w.heap.size + 1, 5, none⟩ = some (.int .i64 q.t.lo) := X1_2.out.cell 5 _ rfl
  have q1_6 : w2.cell? ⟨w.heap.size + 1, 6, none⟩ = some (.int .i64 q.t.hi) := X1_2.out.cell 6 _ rfl
  have q1_7 : w2.cell? ⟨w.heap.size + 1, 7, none⟩ = some (.slice b1 m1 k1) := X1_2.out.cell 7 _ rfl
  have q1_8 : w2.cell? ⟨w.heap.size + 1, 8, none⟩ = some (.int .i64 q.g) := X1_2.out.cell 8 _ rfl
  have q1_9 : w2.cell? ⟨w.heap.size + 1, 9, none⟩ = some (.slice b2 m2 k2) := X1_2.out.cell 9 _ rfl
  have q1_10 : w2.cell? ⟨w.heap.size + 1, 10, none⟩ = some (.slice b3 m3 k3) := X1_2.out.cell 10 _ rfl
  have q1_11 : w2.cell? ⟨w.heap.size + 1, 11, none⟩ = some (.int .i64 q.G) := X1_2.out.cell 11 _ rfl
  have q1_12 : w2.cell? ⟨w.heap.size + 1, 12, none⟩ = some (.int .i64 q.R) := X1_2.out.cell 12 _ rfl
  go_wp2_with fail
  clear q0_0 q1_0 q1_1 q1_2 q1_3 q1_4 q1_5 q1_6 q1_7 q1_8 q1_9 q1_10 q1_11 q1_12
  refine (wint W0 w2 p q.g _ H2.out hq.g.1 hq.g.2).mono ?_
  rintro e w3 ⟨rfl, H, K⟩
  have H3 : Hid (Wr W0 p w3 _) := H
  have K3 : Hid (KP p w w3) := K2.out.trans K
  have X0_3 : Hid (BxA w3 (w.heap.size) 62 #[.pointer (some ⟨p, 0, none⟩)]) := X0_2.out.kp K (by omega) (by decide)
  have X1_3 : Hid (BxA w3 (w.heap.size + 1) 36 #[.int .i64 q.F, .int .i64 q.T, .int .i64 q.t.k, .int .i64 q.t.d, .slice b0 m0 k0, .int .i64 q.t.lo, .int .i64 q.t.hi, .slice b1 m1 k1, .int .i64 q.g, .slice b2 m2 k2, .slice b3 m3 k3, .int .i64 q.G, .int .i64 q.R]) := X1_2.out.kp K (by omega) (by decide)
  clear H K
  have q0_0 : w3.cell? ⟨w.heap.size, 0, none⟩ = some (.pointer (some ⟨p, 0, none⟩)) := X0_3.out.cell 0 _ rfl
  have q1_0 : w3.cell? ⟨w.heap.size + 1, 0, none⟩ = some (.int .i64 q.F) := X1_3.out.cell 0 _ rfl
  have q1_1 : w3.cell? ⟨w.heap.size + 1, 1, none⟩ = some (.int .i64 q.T) := X1_3.out.cell 1 _ rfl
  have q1_2 : w3.cell? ⟨w.heap.size + 1, 2, none⟩ = some (.int .i64 q.t.k) := X1_3.out.cell 2 _ rfl
  have q1_3 : w3.cell? ⟨w.heap.size + 1, 3, none⟩ = some (.int .i64 q.t.d) := X1_3.out.cell 3 _ rfl
  have q1_4 : w3.cell? ⟨w.heap.size + 1, 4, none⟩ = some (.slice b0 m0 k0) := X1_3.out.cell 4 _ rfl
  have q1_5 : w3.cell? ⟨w.heap.size + 1, 5, none⟩ = some (.int .i64 q.t.lo) := X1_3.out.cell 5 _ rfl
  have q1_6 : w3.cell? ⟨w.heap.size + 1, 6, none⟩ = some (.int .i64 q.t.hi) := X1_3.out.cell 6 _ rfl
  have q1_7 : w3.cell? ⟨w.heap.size + 1, 7, none⟩ = some (.slice b1 m1 k1) := X1_3.out.cell 7 _ rfl
  have q1_8 : w3.cell? ⟨w.heap.size + 1, 8, none⟩ = some (.int .i64 q.g) := X1_3.out.cell 8 _ rfl
  have q1_9 : w3.cell? ⟨w.heap.size + 1, 9, none⟩ = some (.slice b2 m2 k2) := X1_3.out.cell 9 _ rfl
  have q1_10 : w3.cell? ⟨w.heap.size + 1, 10, none⟩ = some (.slice b3 m3 k3) := X1_3.out.cell 10 _ rfl
  have q1_11 : w3.cell? ⟨w.heap.size + 1, 11, none⟩ = some (.int .i64 q.G) := X1_3.out.cell 11 _ rfl
  have q1_12 : w3.cell? ⟨w.heap.size + 1, 12, none⟩ = some (.int .i64 q.R) := X1_3.out.cell 12 _ rfl
  go_wp2_with fail
  clear q0_0 q1_0 q1_1 q1_2 q1_3 q1_4 q1_5 q1_6 q1_7 q1_8 q1_9 q1_10 q1_11 q1_12
  refine (HS.out w3 w.heap.size _ H3.out X0_3.out (by omega)).mono ?_
  rintro e w4 ⟨rfl, H, K⟩
  have H4 : Hid (Wr W0 p w4 _) := H
  have K4 : Hid (KP p w w4) := K3.out.trans K
  have X0_4 : Hid (BxA w4 (w.heap.size) 62 #[.pointer (some ⟨p, 0, none⟩)]) := X0_3.out.kp K (by omega) (by decide)
  have X1_4 : Hid (BxA w4 (w.heap.size + 1) 36 #[.int .i64 q.F, .int .i64 q.T, .int .i64 q.t.k, .int .i64 q.t.d, .slice b0 m0 k0, .int .i64 q.t.lo, .int .i64 q.t.hi, .slice b1 m1 k1, .int .i64 q.g, .slice b2 m2 k2, .slice b3 m3 k3, .int .i64 q.G, .int .i64 q.R]) := X1_3.out.kp K (by omega) (by decide)
  clear H K
  have q0_0 : w4.cell? ⟨w.heap.size, 0, none⟩ = some (.pointer (some ⟨p, 0, none⟩)) := X0_4.out.cell 0 _ rfl
  have q1_0 : w4.cell? ⟨w.heap.size + 1, 0, none⟩ = some (.int .i64 q.F) := X1_4.out.cell 0 _ rfl
  have q1_1 : w4.cell? ⟨w.heap.size + 1, 1, none⟩ = some (.int .i64 q.T) := X1_4.out.cell 1 _ rfl
  have q1_2 : w4.cell? ⟨w.heap.size + 1, 2, none⟩ = some (.int .i64 q.t.k) := X1_4.out.cell 2 _ rfl
  have q1_3 : w4.cell? ⟨w.heap.size + 1, 3, none⟩ = some (.int .i64 q.t.d) := X1_4.out.cell 3 _ rfl
  have q1_4 : w4.cell? ⟨w.heap.size + 1, 4, none⟩ = some (.slice b0 m0 k0) := X1_4.out.cell 4 _ rfl
  have q1_5 : w4.cell? ⟨w.heap.size + 1, 5, none⟩ = some (.int .i64 q.t.lo) := X1_4.out.cell 5 _ rfl
  have q1_6 : w4.cell? ⟨w.heap.size + 1, 6, none⟩ = some (.int .i64 q.t.hi) := X1_4.out.cell 6 _ rfl
  have q1_7 : w4.cell? ⟨w.heap.size + 1, 7, none⟩ = some (.slice b1 m1 k1) := X1_4.out.cell 7 _ rfl
  have q1_8 : w4.cell? ⟨w.heap.size + 1, 8, none⟩ = some (.int .i64 q.g) := X1_4.out.cell 8 _ rfl
  have q1_9 : w4.cell? ⟨w.heap.size + 1, 9, none⟩ = some (.slice b2 m2 k2) := X1_4.out.cell 9 _ rfl
  have q1_10 : w4.cell? ⟨w.heap.size + 1, 10, none⟩ = some (.slice b3 m3 k3) := X1_4.out.cell 10 _ rfl
  have q1_11 : w4.cell? ⟨w.heap.size + 1, 11, none⟩ = some (.int .i64 q.G) := X1_4.out.cell 11 _ rfl
  have q1_12 : w4.cell? ⟨w.heap.size + 1, 12, none⟩ = some (.int .i64 q.R) := X1_4.out.cell 12 _ rfl
  go_wp2_with fail
  clear q0_0 q1_0 q1_1 q1_2 q1_3 q1_4 q1_5 q1_6 q1_7 q1_8 q1_9 q1_10 q1_11 q1_12
  refine (HA.out w4 _ H4.out).mono ?_
  rintro e w5 ⟨rfl, H, K⟩
  have H5 : Hid (Wr W0 p w5 _) := H
  have K5 : Hid (KP p w w5) := K4.out.trans K
  have X0_5 : Hid (BxA w5 (w.heap.size) 62 #[.pointer (some ⟨p, 0, none⟩)]) := X0_4.out.kp K (by omega) (by decide)
  have X1_5 : Hid (BxA w5 (w.heap.size + 1) 36 #[.int .i64 q.F, .int .i64 q.T, .int .i64 q.t.k, .int .i64 q.t.d, .slice b0 m0 k0, .int .i64 q.t.lo, .int .i64 q.t.hi, .slice b1 m1 k1, .int .i64 q.g, .slice b2 m2 k2, .slice b3 m3 k3, .int .i64 q.G, .int .i64 q.R]) := X1_4.out.kp K (by omega) (by decide)
  clear H K
  have q0_0 : w5.cell? ⟨w.heap.size, 0, none⟩ = some (.pointer (some ⟨p, 0, none⟩)) := X0_5.out.cell 0 _ rfl
  have q1_0 : w5.cell? ⟨w.heap.size + 1, 0, none⟩ = some (.int .i64 q.F) := X1_5.out.cell 0 _ rfl
  have q1_1 : w5.cell? ⟨w.heap.size + 1, 1, none⟩ = some (.int .i64 q.T) := X1_5.out.cell 1 _ rfl
  have q1_2 : w5.cell? ⟨w.heap.size + 1, 2, none⟩ = some (.int .i64 q.t.k) := X1_5.out.cell 2 _ rfl
  have q1_3 : w5.cell? ⟨w.heap.size + 1, 3, none⟩ = some (.int .i64 q.t.d) := X1_5.out.cell 3 _ rfl
  have q1_4 : w5.cell? ⟨w.heap.size + 1, 4, none⟩ = some (.slice b0 m0 k0) := X1_5.out.cell 4 _ rfl
  have q1_5 : w5.cell? ⟨w.heap.size + 1, 5, none⟩ = some (.int .i64 q.t.lo) := X1_5.out.cell 5 _ rfl
  have q1_6 : w5.cell? ⟨w.heap.size + 1, 6, none⟩ = some (.int .i64 q.t.hi) := X1_5.out.cell 6 _ rfl
  have q1_7 : w5.cell? ⟨w.heap.size + 1, 7, none⟩ = some (.slice b1 m1 k1) := X1_5.out.cell 7 _ rfl
  have q1_8 : w5.cell? ⟨w.heap.size + 1, 8, none⟩ = some (.int .i64 q.g) := X1_5.out.cell 8 _ rfl
  have q1_9 : w5.cell? ⟨w.heap.size + 1, 9, none⟩ = some (.slice b2 m2 k2) := X1_5.out.cell 9 _ rfl
  have q1_10 : w5.cell? ⟨w.heap.size + 1, 10, none⟩ = some (.slice b3 m3 k3) := X1_5.out.cell 10 _ rfl
  have q1_11 : w5.cell? ⟨w.heap.size + 1, 11, none⟩ = some (.int .i64 q.G) := X1_5.out.cell 11 _ rfl
  have q1_12 : w5.cell? ⟨w.heap.size + 1, 12, none⟩ = some (.int .i64 q.R) := X1_5.out.cell 12 _ rfl
  go_wp2_with fail
  clear q0_0 q1_0 q1_1 q1_2 q1_3 q1_4 q1_5 q1_6 q1_7 q1_8 q1_9 q1_10 q1_11 q1_12
  refine (wwhole W0 w5 p q.G _ H5.out hq.c.1 hq.c.2).mono ?_
  rintro e w6 ⟨rfl, H, K⟩
  have H6 : Hid (Wr W0 p w6 _) := H
  have K6 : Hid (KP p w w6) := K5.out.trans K
  have X0_6 : Hid (BxA w6 (w.heap.size) 62 #[.pointer (some ⟨p, 0, none⟩)]) := X0_5.out.kp K (by omega) (by decide)
  have X1_6 : Hid (BxA w6 (w.heap.size + 1) 36 #[.int .i64 q.F, .int .i64 q.T, .int .i64 q.t.k, .int .i64 q.t.d, .slice b0 m0 k0, .int .i64 q.t.lo, .int .i64 q.t.hi, .slice b1 m1 k1, .int .i64 q.g, .slice b2 m2 k2, .slice b3 m3 k3, .int .i64 q.G, .int .i64 q.R]) := X1_5.out.kp K (by omega) (by decide)
  clear H K
  have q0_0 : w6.cell? ⟨w.heap.size, 0, none⟩ = some (.pointer (some ⟨p, 0, none⟩)) := X0_6.out.cell 0 _ rfl
  have q1_0 : w6.cell? ⟨w.heap.size + 1, 0, none⟩ = some (.int .i64 q.F) := X1_6.out.cell 0 _ rfl
  have q1_1 : w6.cell? ⟨w.heap.size + 1, 1, none⟩ = some (.int .i64 q.T) := X1_6.out.cell 1 _ rfl
  have q1_2 : w6.cell? ⟨w.heap.size + 1, 2, none⟩ = some (.int .i64 q.t.k) := X1_6.out.cell 2 _ rfl
  have q1_3 : w6.cell? ⟨w.heap.size + 1, 3, none⟩ = some (.int .i64 q.t.d) := X1_6.out.cell 3 _ rfl
  have q1_4 : w6.cell? ⟨w.heap.size + 1, 4, none⟩ = some (.slice b0 m0 k0) := X1_6.out.cell 4 _ rfl
  have q1_5 : w6.cell? ⟨w.heap.size + 1, 5, none⟩ = some (.int .i64 q.t.lo) := X1_6.out.cell 5 _ rfl
  have q1_6 : w6.cell? ⟨w.heap.size + 1, 6, none⟩ = some (.int .i64 q.t.hi) := X1_6.out.cell 6 _ rfl
  have q1_7 : w6.cell? ⟨w.heap.size + 1, 7, none⟩ = some (.slice b1 m1 k1) := X1_6.out.cell 7 _ rfl
  have q1_8 : w6.cell? ⟨w.heap.size + 1, 8, none⟩ = some (.int .i64 q.g) := X1_6.out.cell 8 _ rfl
  have q1_9 : w6.cell? ⟨w.heap.size + 1, 9, none⟩ = some (.slice b2 m2 k2) := X1_6.out.cell 9 _ rfl
  have q1_10 : w6.cell? ⟨w.heap.size + 1, 10, none⟩ = some (.slice b3 m3 k3) := X1_6.out.cell 10 _ rfl
  have q1_11 : w6.cell? ⟨w.heap.size + 1, 11, none⟩ = some (.int .i64 q.G) := X1_6.out.cell 11 _ rfl
  have q1_12 : w6.cell? ⟨w.heap.size + 1, 12, none⟩ = some (.int .i64 q.R) := X1_6.out.cell 12 _ rfl
  go_wp2_with fail
  clear q0_0 q1_0 q1_1 q1_2 q1_3 q1_4 q1_5 q1_6 q1_7 q1_8 q1_9 q1_10 q1_11 q1_12
  refine (wwhole W0 w6 p q.R _ H6.out hq.r.1 hq.r.2).mono ?_
  rintro e w7 ⟨rfl, H, K⟩
  have H7 : Hid (Wr W0 p w7 _) := H
  have K7 : Hid (KP p w w7) := K6.out.trans K
  have X0_7 : Hid (BxA w7 (w.heap.size) 62 #[.pointer (some ⟨p, 0, none⟩)]) := X0_6.out.kp K (by omega) (by decide)
  have X1_7 : Hid (BxA w7 (w.heap.size + 1) 36 #[.int .i64 q.F, .int .i64 q.T, .int .i64 q.t.k, .int .i64 q.t.d, .slice b0 m0 k0, .int .i64 q.t.lo, .int .i64 q.t.hi, .slice b1 m1 k1, .int .i64 q.g, .slice b2 m2 k2, .slice b3 m3 k3, .int .i64 q.G, .int .i64 q.R]) := X1_6.out.kp K (by omega) (by decide)
  clear H K
  go_wp2_with fail
  go_end0
  refine ⟨rfl, ?_, K7.out⟩
  have := H7.out
  simpa only [put_put, cat_assoc, e_int, e_u, e_bool, e_query] using this
end Go.Proofs.Ytpdlioidiobbbaa
