/- The reference's reader of queries. -/
import Derived.Test.YtpdlioidiobbbaaRk5
import Derived.Test.YtpdlioidiobbbaaRga
namespace Go.Proofs.Ytpdlioidiobbbaa
open Go.RowKit Go.Sort

/-- It hangs on the blocks from a to below b alone. -/
def Wne (a b : Nat) (w : World) (φ : World → Prop) : Prop := ∀ w', b ≤ w'.heap.size → (∀ i, a ≤ i → i < b → w'.heap[i]? = w.heap[i]?) → φ w'
theorem Wne.up {a b : Nat} {w w' : World} {φ : World → Prop} (h : Wne a b w φ) (hk : ∀ i, a ≤ i → i < b → w'.heap[i]? = w.heap[i]?) : Wne a b w' φ := fun w'' hz hk' => h w'' hz fun i h1 h2 => (hk' i h1 h2).trans (hk i h1 h2)
theorem Wne.win {a b : Nat} {w : World} {φ : World → Prop} (h : Wne a b w φ) (hb : b ≤ w.heap.size) : Win a w φ := fun w' hz hk => h w' (Nat.le_trans hb hz) fun i h1 h2 => hk i h1 (Nat.lt_of_lt_of_le h2 hb)
/-- Behind a query's first parts: what lies in its box. -/
structure Q3 (B K : Nat) (v : Value) (l : Bs) (kd : Nat) (w : World) (p e : Nat) (w' : World) (F T : Int) (t : Fi.Tr) (a1 : Option Addr) (n1 m1 : Nat) (a2 : Option Addr) (o2 m2 : Nat) (g : Int) : Prop where
  iF : In64 F
  iT : In64 T
  it : TrIn t
  e1 : t.tv = .slice a1 n1 m1
  e2 : t.kv = .slice a2 o2 m2
  ig : In64 g
  G : GK B K v l w w' (p, e) (fun s => skU l (skFil l kd (skSpan l s))) ((r_span F T ++ r_fil t) ++ ei g)
  x : BxA w' (w.heap.size + 1) 36 #[.int .i64 F, .int .i64 T, .int .i64 t.k, .int .i64 t.d, .slice a1 n1 m1, .int .i64 t.lo, .int .i64 t.hi, .slice a2 o2 m2, .int .i64 g, .slice none 0 0, .slice none 0 0, .int .i64 0, .int .i64 0]
  o : BxA w' w.heap.size 36 #[.int .i64 0, .int .i64 0, .int .i64 0, .int .i64 0, .slice none 0 0, .int .i64 0, .int .i64 0, .slice none 0 0, .int .i64 0, .slice none 0 0, .slice none 0 0, .int .i64 0, .int .i64 0]
  wt : Win (w.heap.size + 1 + 1) w' (fun w => t.Ok w)
set_option maxRecDepth 100000 in
set_option maxHeartbeats 6400000 in
theorem kquery' (kd : Nat) (B K : Nat) (v : Value) (l : Bs) (w : World) (p e : Nat) (hlb : l.length ≤ 1048576) (h : RP B K v l w p e) (hfil : ∀ (w : World) (p e : Nat), RP B K v l w p e → Calls Try.prog 111 #[.pointer (some ⟨K, 0, none⟩), .int .i64 1] w fun ev w' => ∃ x : Fi.Tr, ev = .returned (.agg #[.int .i64 x.k, .int .i64 x.d, x.tv, .int .i64 x.lo, .int .i64 x.hi, x.kv]) ∧ Win w.heap.size w' (fun w => x.Ok w) ∧ (TrIn x ∧ (∃ a n c, x.tv = .slice a n c) ∧ (∃ a n c, x.kv = .slice a n c)) ∧ GK B K v l w w' (p, e) (skFil l kd) (r_fil x)) :
    Calls Try.prog 63 #[.pointer (some ⟨K, 0, none⟩)] w fun ev w' => ∃ q : Qw, ev = .returned (.agg #[.int .i64 q.F, .int .i64 q.T, .int .i64 q.t.k, .int .i64 q.t.d, q.t.tv, .int .i64 q.t.lo, .int .i64 q.t.hi, q.t.kv, .int .i64 q.g, q.sv, q.av, .int .i64 q.G, .int .i64 q.R]) ∧ Win w.heap.size w' (fun w => q.Ok w) ∧ ((∃ a n c, q.t.tv = .slice a n c) ∧ (∃ a n c, q.t.kv = .slice a n c) ∧ (∃ a n c, q.sv = .slice a n c) ∧ (∃ a n c, q.av = .slice a n c)) ∧ GK B K v l w w' (p, e) (fun s => skU l (skU l (skL l (skAgg l) (skL l (skL l (skU l)) (skU l (skFil l kd (skSpan l s))))))) (r_query q) := by
  obtain ⟨i0, hi0, hz0, hz1, hz2⟩ := info_parts Try.inf_set
  obtain ⟨j0, hj0, jz0, jz1, jz2⟩ := info_parts Try.inf_int
  obtain ⟨l0, hl0, lz0, lz1, lz2⟩ := info_parts Try.inf_agg
  have hRw := h.lt
  have hple := h.le
  obtain ⟨V, hV⟩ : ∃ V, V = ((w.alloc (.cells #[.int .i64 0, .int .i64 0, .int .i64 0, .int .i64 0, .slice none 0 0, .int .i64 0, .int .i64 0, .slice none 0 0, .int .i64 0, .slice none 0 0, .slice none 0 0, .int .i64 0, .int .i64 0] 36)).alloc (.cells #[.int .i64 0, .int .i64 0, .int .i64 0, .int .i64 0, .slice none 0 0, .int .i64 0, .int .i64 0, .slice none 0 0, .int .i64 0, .slice none 0 0, .slice none 0 0, .int .i64 0, .int .i64 0] 36)) := ⟨_, rfl⟩
  have hP : RP B K v l V p e := by rw [hV]; exact h.keep (((Below.refl (K + 1) w).alloc hRw _).alloc (Nat.le_trans hRw (by simp)) _)
  have gV : w.grownBy V (some K) := by rw [hV]; exact grown_trans' (grown_alloc _ _ _) (grown_alloc _ _ _)
  have xF : BxA V (w.heap.size + 1) 36 #[.int .i64 0, .int .i64 0, .int .i64 0, .int .i64 0, .slice none 0 0, .int .i64 0, .int .i64 0, .slice none 0 0, .int .i64 0, .slice none 0 0, .slice none 0 0, .int .i64 0, .int .i64 0] := by
    rw [hV]
    have := BxA.new (w.alloc (.cells #[.int .i64 0, .int .i64 0, .int .i64 0, .int .i64 0, .slice none 0 0, .int .i64 0, .int .i64 0, .slice none 0 0, .int .i64 0, .slice none 0 0, .slice none 0 0, .int .i64 0, .int .i64 0] 36)) 36 #[.int .i64 0, .int .i64 0, .int .i64 0, .int .i64 0, .slice none 0 0, .int .i64 0, .int .i64 0, .slice none 0 0, .int .i64 0, .slice none 0 0, .slice none 0 0, .int .i64 0, .int .i64 0]
    simpa [BxA] using this
  have xO : BxA V w.heap.size 36 #[.int .i64 0, .int .i64 0, .int .i64 0, .int .i64 0, .slice none 0 0, .int .i64 0, .int .i64 0, .slice none 0 0, .int .i64 0, .slice none 0 0, .slice none 0 0, .int .i64 0, .int .i64 0] := by
    rw [hV]
    unfold BxA
    rw [Below.heap_alloc _ _ _ (by simp)]
    exact BxA.new _ _ _
  have HV : Hid (V = _) := hV
  have G0 : GK B K v l w V (p, e) (fun s => s) [] := GK.id hP gV
  have k0 := kspan B K v l V _ _ hlb G0.ps
  have H0 : Hid _ := And.intro G0 xF
  have HO0 : Hid (BxA V w.heap.size 36 #[.int .i64 0, .int .i64 0, .int .i64 0, .int .i64 0, .slice none 0 0, .int .i64 0, .int .i64 0, .slice none 0 0, .int .i64 0, .slice none 0 0, .slice none 0 0, .int .i64 0, .int .i64 0]) := xO
  clear hV hP gV xF xO h G0
  go_enter Try.func63, Try.ntmps63
  go_upto_region 2 with fail
  rw [← HV.out]
  go_wp2_with fail
  refine k0.mono ?_
  rintro er w1 ⟨F, T, rfl, iF, iT, G⟩
  obtain ⟨GA, xF⟩ := H0.out
  have GC := GK.comp hple (fwd_id l) (fwd_span l) GA G
  have xF1 := BxA.grow xF G.g (by omega)
  have z0 : w1.cell? ⟨w.heap.size + 1, 0, none⟩ = some (.int .i64 0) := BxA.cell xF1 0 _ rfl
  have f0 : w1.frozen? ⟨w.heap.size + 1, 0, none⟩ = false := BxA.free xF1 0
  have z1 : w1.cell? ⟨w.heap.size + 1, 1, none⟩ = some (.int .i64 0) := BxA.cell xF1 1 _ rfl
  have f1 : w1.frozen? ⟨w.heap.size + 1, 1, none⟩ = false := BxA.free xF1 1
  have xq0 : BxA _ (w.heap.size + 1) 36 #[.int .i64 F, .int .i64 0, .int .i64 0, .int .i64 0, .slice none 0 0, .int .i64 0, .int .i64 0, .slice none 0 0, .int .i64 0, .slice none 0 0, .slice none 0 0, .int .i64 0, .int .i64 0] := BxA.set xF1 0 (.int .i64 F)
  have gq0 := GK.fld GC (g := w.heap.size + 1) (by omega) (BxA.lt xF1) hRw 0 (.int .i64 F)
  have xq1 : BxA _ (w.heap.size + 1) 36 #[.int .i64 F, .int .i64 T, .int .i64 0, .int .i64 0, .slice none 0 0, .int .i64 0, .int .i64 0, .slice none 0 0, .int .i64 0, .slice none 0 0, .slice none 0 0, .int .i64 0, .int .i64 0] := BxA.set xq0 1 (.int .i64 T)
  have gq1 := GK.fld gq0 (g := w.heap.size + 1) (by omega) (BxA.lt xq0) hRw 1 (.int .i64 T)
  obtain ⟨Y1, hY1⟩ : ∃ Y, Y = ((w1.setCell ⟨w.heap.size + 1, 0, none⟩ (.int .i64 F)).setCell ⟨w.heap.size + 1, 1, none⟩ (.int .i64 T)) := ⟨_, rfl⟩
  have GY := gq1
  have xY := xq1
  rw [← hY1] at GY xY
  clear xq0 gq0 xq1 gq1
  have xO1 := BxA.grow HO0.out G.g (by omega)
  have HO1 : Hid (BxA Y1 w.heap.size 36 #[.int .i64 0, .int .i64 0, .int .i64 0, .int .i64 0, .slice none 0 0, .int .i64 0, .int .i64 0, .slice none 0 0, .int .i64 0, .slice none 0 0, .slice none 0 0, .int .i64 0, .int .i64 0]) := by apply hide; rw [hY1]; exact BxA.other (BxA.other xO1 (by omega)) (by omega)
  have k1 := hfil Y1 _ _ GY.ps
  have HY1 : Hid (Y1 = _) := hY1
  have H1 : Hid _ := And.intro GY xY
  have HHF : Hid _ := And.intro iF iT
  clear k0 G GA xF GC xF1 hY1 GY xY xO1 iF iT
  go_wp2_with fail
  rw [← HY1.out]
  refine k1.mono ?_
  rintro er w2 ⟨t, rfl, wt, ⟨it, ⟨a1, n1, m1, e1⟩, ⟨a2, o2, m2, e2⟩⟩, G⟩
  rw [e1, e2]
  obtain ⟨GA, xF⟩ := H1.out
  have GC := GK.comp hple (fwd_span l) (fwd_fil l kd) GA G
  have xF1 := BxA.grow xF G.g (by omega)
  have wt1 := Win.mono wt (BxA.lt xF)
  have z2 : w2.cell? ⟨w.heap.size + 1, 2, none⟩ = some (.int .i64 0) := BxA.cell xF1 2 _ rfl
  have f2 : w2.frozen? ⟨w.heap.size + 1, 2, none⟩ = false := BxA.free xF1 2
  have z3 : w2.cell? ⟨w.heap.size + 1, 3, none⟩ = some (.int .i64 0) := BxA.cell xF1 3 _ rfl
  have f3 : w2.frozen? ⟨w.heap.size + 1, 3, none⟩ = false := BxA.free xF1 3
  have z4 : w2.cell? ⟨w.heap.size + 1, 4, none⟩ = some (.slice none 0 0) := BxA.cell xF1 4 _ rfl
  have f4 : w2.frozen? ⟨w.heap.size + 1, 4, none⟩ = false := BxA.free xF1 4
  have z5 : w2.cell? ⟨w.heap.size + 1, 5, none⟩ = some (.int .i64 0) := BxA.cell xF1 5 _ rfl
  have f5 : w2.frozen? ⟨w.heap.size + 1, 5, none⟩ = false := BxA.free xF1 5
  have z6 : w2.cell? ⟨w.heap.size + 1, 6, none⟩ = some (.int .i64 0) := BxA.cell xF1 6 _ rfl
  have f6 : w2.frozen? ⟨w.heap.size + 1, 6, none⟩ = false := BxA.free xF1 6
  have z7 : w2.cell? ⟨w.heap.size + 1, 7, none⟩ = some (.slice none 0 0) := BxA.cell xF1 7 _ rfl
  have f7 : w2.frozen? ⟨w.heap.size + 1, 7, none⟩ = false := BxA.free xF1 7
  have xq0 : BxA _ (w.heap.size + 1) 36 #[.int .i64 F, .int .i64 T, .int .i64 t.k, .int .i64 0, .slice none 0 0, .int .i64 0, .int .i64 0, .slice none 0 0, .int .i64 0, .slice none 0 0, .slice none 0 0, .int .i64 0, .int .i64 0] := BxA.set xF1 2 (.int .i64 t.k)
  have gq0 := GK.fld GC (g := w.heap.size + 1) (by omega) (BxA.lt xF1) hRw 2 (.int .i64 t.k)
  have xq1 : BxA _ (w.heap.size + 1) 36 #[.int .i64 F, .int .i64 T, .int .i64 t.k, .int .i64 t.d, .slice none 0 0, .int .i64 0, .int .i64 0, .slice none 0 0, .int .i64 0, .slice none 0 0, .slice none 0 0, .int .i64 0, .int .i64 0] := BxA.set xq0 3 (.int .i64 t.d)
  have gq1 := GK.fld gq0 (g := w.heap.size + 1) (by omega) (BxA.lt xq0) hRw 3 (.int .i64 t.d)
  have xq2 : BxA _ (w.heap.size + 1) 36 #[.int .i64 F, .int .i64 T, .int .i64 t.k, .int .i64 t.d, .slice a1 n1 m1, .int .i64 0, .int .i64 0, .slice none 0 0, .int .i64 0, .slice none 0 0, .slice none 0 0, .int .i64 0, .int .i64 0] := BxA.set xq1 4 (.slice a1 n1 m1)
  have gq2 := GK.fld gq1 (g := w.heap.size + 1) (by omega) (BxA.lt xq1) hRw 4 (.slice a1 n1 m1)
  have xq3 : BxA _ (w.heap.size + 1) 36 #[.int .i64 F, .int .i64 T, .int .i64 t.k, .int .i64 t.d, .slice a1 n1 m1, .int .i64 t.lo, .int .i64 0, .slice none 0 0, .int .i64 0, .slice none 0 0, .slice none 0 0, .int .i64 0, .int .i64 0] := BxA.set xq2 5 (.int .i64 t.lo)
  have gq3 := GK.fld gq2 (g := w.heap.size + 1) (by omega) (BxA.lt xq2) hRw 5 (.int .i64 t.lo)
  have xq4 : BxA _ (w.heap.size + 1) 36 #[.int .i64 F, .int .i64 T, .int .i64 t.k, .int .i64 t.d, .slice a1 n1 m1, .int .i64 t.lo, .int .i64 t.hi, .slice none 0 0, .int .i64 0, .slice none 0 0, .slice none 0 0, .int .i64 0, .int .i64 0] := BxA.set xq3 6 (.int .i64 t.hi)
  have gq4 := GK.fld gq3 (g := w.heap.size + 1) (by omega) (BxA.lt xq3) hRw 6 (.int .i64 t.hi)
  have xq5 : BxA _ (w.heap.size + 1) 36 #[.int .i64 F, .int .i64 T, .int .i64 t.k, .int .i64 t.d, .slice a1 n1 m1, .int .i64 t.lo, .int .i64 t.hi, .slice a2 o2 m2, .int .i64 0, .slice none 0 0, .slice none 0 0, .int .i64 0, .int .i64 0] := BxA.set xq4 7 (.slice a2 o2 m2)
  have gq5 := GK.fld gq4 (g := w.heap.size + 1) (by omega) (BxA.lt xq4) hRw 7 (.slice a2 o2 m2)
  obtain ⟨Y2, hY2⟩ : ∃ Y, Y = ((((((w2.setCell ⟨w.heap.size + 1, 2, none⟩ (.int .i64 t.k)).setCell ⟨w.heap.size + 1, 3, none⟩ (.int .i64 t.d)).setCell ⟨w.heap.size + 1, 4, none⟩ (.slice a1 n1 m1)).setCell ⟨w.heap.size + 1, 5, none⟩ (.int .i64 t.lo)).setCell ⟨w.heap.size + 1, 6, none⟩ (.int .i64 t.hi)).setCell ⟨w.heap.size + 1, 7, none⟩ (.slice a2 o2 m2)) := ⟨_, rfl⟩
  have GY := gq5
  have xY := xq5
  rw [← hY2] at GY xY
  clear xq0 gq0 xq1 gq1 xq2 gq2 xq3 gq3 xq4 gq4 xq5 gq5
  have wtY : Win (w.heap.size + 1 + 1) Y2 (fun w => t.Ok w) := by
    rw [hY2]
    exact (Win.grow (Win.grow (Win.grow (Win.grow (Win.grow (Win.grow wt1 grown_setCell (by omega)) grown_setCell (by omega)) grown_setCell (by omega)) grown_setCell (by omega)) grown_setCell (by omega)) grown_setCell (by omega))
  have xO1 := BxA.grow HO1.out G.g (by omega)
  have HO2 : Hid (BxA Y2 w.heap.size 36 #[.int .i64 0, .int .i64 0, .int .i64 0, .int .i64 0, .slice none 0 0, .int .i64 0, .int .i64 0, .slice none 0 0, .int .i64 0, .slice none 0 0, .slice none 0 0, .int .i64 0, .int .i64 0]) := by apply hide; rw [hY2]; exact BxA.other (BxA.other (BxA.other (BxA.other (BxA.other (BxA.other xO1 (by omega)) (by omega)) (by omega)) (by omega)) (by omega)) (by omega)
  have k2 := kint B K v l Y2 _ _ GY.ps
  have HY2 : Hid (Y2 = _) := hY2
  have H2 : Hid _ := And.intro GY (And.intro xY wtY)
  have HHT : Hid _ := And.intro it (And.intro e1 e2)
  clear k1 G GA xF GC xF1 hY2 GY xY xO1 wt wt1 wtY it e1 e2
  go_wp2_with fail
  rw [← HY2.out]
  refine k2.mono ?_
  rintro er w3 ⟨g, rfl, ig, G⟩
  obtain ⟨GA, xF, wt⟩ := H2.out
  have GC := GK.comp hple ((fwd_span l).comp (fwd_fil l kd)) (fwd_u l) GA G
  have xF1 := BxA.grow xF G.g (by omega)
  have wt1 := Win.grow wt G.g (by omega)
  have z8 : w3.cell? ⟨w.heap.size + 1, 8, none⟩ = some (.int .i64 0) := BxA.cell xF1 8 _ rfl
  have f8 : w3.frozen? ⟨w.heap.size + 1, 8, none⟩ = false := BxA.free xF1 8
  have xq0 : BxA _ (w.heap.size + 1) 36 #[.int .i64 F, .int .i64 T, .int .i64 t.k, .int .i64 t.d, .slice a1 n1 m1, .int .i64 t.lo, .int .i64 t.hi, .slice a2 o2 m2, .int .i64 g, .slice none 0 0, .slice none 0 0, .int .i64 0, .int .i64 0] := BxA.set xF1 8 (.int .i64 g)
  have gq0 := GK.fld GC (g := w.heap.size + 1) (by omega) (BxA.lt xF1) hRw 8 (.int .i64 g)
  obtain ⟨Y3, hY3⟩ : ∃ Y, Y = (w3.setCell ⟨w.heap.size + 1, 8, none⟩ (.int .i64 g)) := ⟨_, rfl⟩
  have GY := gq0
  have xY := xq0
  rw [← hY3] at GY xY
  clear xq0 gq0
  have wtY : Win (w.heap.size + 1 + 1) Y3 (fun w => t.Ok w) := by
    rw [hY3]
    exact (Win.grow wt1 grown_setCell (by omega))
  have xO1 := BxA.grow HO2.out G.g (by omega)
  have xOY : BxA Y3 w.heap.size 36 #[.int .i64 0, .int .i64 0, .int .i64 0, .int .i64 0, .slice none 0 0, .int .i64 0, .int .i64 0, .slice none 0 0, .int .i64 0, .slice none 0 0, .slice none 0 0, .int .i64 0, .int .i64 0] := by rw [hY3]; exact BxA.other xO1 (by omega)
  have HY3 : Hid (Y3 = _) := hY3
  have HQ3 : Hid (Q3 B K v l kd w p e Y3 F T t a1 n1 m1 a2 o2 m2 g) := ⟨HHF.out.1, HHF.out.2, HHT.out.1, HHT.out.2.1, HHT.out.2.2, ig, GY, xY, xOY, wtY⟩
  clear k2 G GA xF GC xF1 hY3 GY xY xO1 xOY wt wt1 wtY ig
  obtain ⟨s3, hs3⟩ : ∃ s3 : Sg2, s3 = skU l (skFil l kd (skSpan l (p, e))) := ⟨_, rfl⟩
  have ps3 : RP B K v l Y3 s3.1 s3.2 := by rw [hs3]; exact HQ3.out.G.ps
  have k3 := kcount B K v l Y3 s3.1 s3.2 hlb ps3
  obtain ⟨n, hn⟩ : ∃ n, n = (cS l s3.1 s3.2 1).1 := ⟨_, rfl⟩
  obtain ⟨s1, hs1⟩ : ∃ s : Sg2, s = (cS l s3.1 s3.2 1).2 := ⟨_, rfl⟩
  have hnl : n ≤ 1048576 := by rw [hn]; exact Nat.le_trans (c_le l s3.1 s3.2 ps3.le) hlb
  have e1' : (cS l s3.1 s3.2 1).2.1 = s1.1 := by rw [hs1]
  have e2' : (cS l s3.1 s3.2 1).2.2 = s1.2 := by rw [hs1]
  rw [← hn, e1', e2'] at k3
  have HN : Hid (n = (cS l s3.1 s3.2 1).1 ∧ s1 = (cS l s3.1 s3.2 1).2) := ⟨hn, hs1⟩
  have HS3 : Hid (s3 = _) := hs3
  have HP3 : Hid (RP B K v l Y3 s3.1 s3.2) := ps3
  obtain ⟨Z3, hZ3⟩ : ∃ Z, Z = Y3.heap.size := ⟨_, rfl⟩
  have hNZ : w.heap.size + 1 + 1 ≤ Z3 := by rw [hZ3]; exact BxA.lt HQ3.out.x
  have HZ3 : Hid (Z3 = Y3.heap.size) := hZ3
  clear hn hs1 e1' e2' ps3 hs3 hZ3
  go_upto_region 5 with fail
  rw [← HY3.out]
  clear z0 f0 z1 f1 z2 f2 z3 f3 z4 f4 z5 f5 z6 f6 z7 f7 z8 f8
  go_wp2_with fail
  refine k3.mono ?_
  rintro er w4 ⟨rfl, hP4, g4⟩
  have HP1 : Hid (RP B K v l w4 s1.1 s1.2) := hP4
  have HX4 : Hid (BxA w4 (w.heap.size + 1) 36 #[.int .i64 F, .int .i64 T, .int .i64 t.k, .int .i64 t.d, .slice a1 n1 m1, .int .i64 t.lo, .int .i64 t.hi, .slice a2 o2 m2, .int .i64 g, .slice none 0 0, .slice none 0 0, .int .i64 0, .int .i64 0] ∧ BxA w4 w.heap.size 36 #[.int .i64 0, .int .i64 0, .int .i64 0, .int .i64 0, .slice none 0 0, .int .i64 0, .int .i64 0, .slice none 0 0, .int .i64 0, .slice none 0 0, .slice none 0 0, .int .i64 0, .int .i64 0]) := ⟨BxA.grow HQ3.out.x g4 (by omega), BxA.grow HQ3.out.o g4 (by omega)⟩
  have HW4 : Hid (Z3 ≤ w4.heap.size ∧ Wne (w.heap.size + 1 + 1) Z3 w4 (fun w => t.Ok w)) := ⟨by rw [HZ3.out]; exact g4.size, by
    have h1 : Wne (w.heap.size + 1 + 1) Z3 Y3 (fun w => t.Ok w) := by rw [HZ3.out]; exact HQ3.out.wt
    refine h1.up fun i h2 h3 => g4.block i (by rw [← HZ3.out]; exact h3) (fun e => by simp only [Option.some.injEq] at e; omega)⟩
  have HG4 : Hid (w.grownBy w4 (some K)) := grown_trans' HQ3.out.G.g g4
  clear hP4 g4 k3
  go_wp2_with fail
  go_loopg [5] n (fun kx v5 wr => ∃ (i : Nat) (ss : List (Value × List Int)) (sa : Option Addr) (sn sc : Nat), v5 = .int .i64 (i : Int) ∧ i ≤ n ∧ n - i ≤ kx ∧ Hid (ss.length = i) ∧ Hid (BxA wr (w.heap.size + 1) 36 #[.int .i64 F, .int .i64 T, .int .i64 t.k, .int .i64 t.d, .slice a1 n1 m1, .int .i64 t.lo, .int .i64 t.hi, .slice a2 o2 m2, .int .i64 g, .slice sa sn sc, .slice none 0 0, .int .i64 0, .int .i64 0] ∧ BxA wr w.heap.size 36 #[.int .i64 0, .int .i64 0, .int .i64 0, .int .i64 0, .slice none 0 0, .int .i64 0, .int .i64 0, .slice none 0 0, .int .i64 0, .slice none 0 0, .slice none 0 0, .int .i64 0, .int .i64 0]) ∧ Hid (wr.ownsRow Z3 123 1 (.slice sa sn sc) i (ss.flatMap cl_set)) ∧ Hid (∀ x ∈ ss, SetIn Z3 wr x) ∧ Hid (Z3 ≤ wr.heap.size ∧ Wne (w.heap.size + 1 + 1) Z3 wr (fun w => t.Ok w)) ∧ Hid (RP B K v l wr (skN (skL l (skU l)) i s1).1 (skN (skL l (skU l)) i s1).2) ∧ Hid (w.grownBy wr (some K)) ∧ Hid (s1.2 = 0 → (skN (skL l (skU l)) i s1).2 = 0 → ss.flatMap r_set = rd l s1.1 (skN (skL l (skU l)) i s1).1))
  case atStart => exact ⟨0, [], none, 0, 0, rfl, by omega, Nat.le_refl _, rfl, HX4, ⟨rfl, .inl ⟨rfl, rfl⟩⟩, (fun _ h => by cases h), HW4, HP1, HG4, fun _ _ => by show _ = rd l s1.1 s1.1; simp [rd]⟩
  case round =>
    rename World => wo
    obtain ⟨i, ss, sa, sn, sc, rfl, hi, hkx, HXL, HBX, HSW, HOK, HWT, HP, HG, HBB⟩ := hrel
    obtain ⟨E, hE⟩ : ∃ E, E = (skN (skL l (skU l)) i s1).2 := ⟨_, rfl⟩
    have HEE : Hid (E = (skN (skL l (skU l)) i s1).2) := hE
    have hks := HP.out.ks
    rw [← hE] at hks
    obtain ⟨c0, c1, c2, cf⟩ := hks.cells
    clear hks hE cf c0 c1
    by_cases hlt : i < n
    · have hltz : (i : Int) < (n : Int) := by omega
      by_cases he : E = 0
      · subst he
        obtain ⟨q, hq⟩ : ∃ q, q = (skN (skL l (skU l)) i s1).1 := ⟨_, rfl⟩
        have HQ : Hid ((q, 0) = skN (skL l (skU l)) i s1) := Prod.ext hq HEE.out
        have hleq : ((q, 0) : Sg2).1 ≤ l.length := by rw [hq]; exact HP.out.le
        have rq : RP B K v l wo q 0 := by have := HP.out; rw [← hq, ← HEE.out] at this; exact this
        have HKo : Hid (K < wo.heap.size) := rq.lt
        have kk := kcount B K v l wo q 0 hlb rq
        obtain ⟨m, hm⟩ : ∃ m, m = (cS l q 0 1).1 := ⟨_, rfl⟩
        obtain ⟨t1, ht1⟩ : ∃ s : Sg2, s = (cS l q 0 1).2 := ⟨_, rfl⟩
        have hml : m ≤ 1048576 := by rw [hm]; exact Nat.le_trans (c_le l q 0 rq.le) hlb
        have e1' : (cS l q 0 1).2.1 = t1.1 := by rw [ht1]
        have e2' : (cS l q 0 1).2.2 = t1.2 := by rw [ht1]
        rw [← hm, e1', e2'] at kk
        have HM : Hid (m = (cS l q 0 1).1 ∧ t1 = (cS l q 0 1).2) := ⟨hm, ht1⟩
        clear hm ht1 e1' e2' rq hq
        go_wp2_with fail
        refine kk.mono ?_
        rintro er cw ⟨rfl, hPc, gc⟩
        have HPc : Hid (RP B K v l cw t1.1 t1.2) := hPc
        have HGc : Hid (wo.grownBy cw (some K)) := gc
        clear hPc gc kk
        go_wp2_with fail
        go_loopg [7, 8] m (fun ky v7 v8 wi => ∃ (j : Nat) (zs : List Int) (x7 : Value), v8 = .int .i64 (j : Int) ∧ x7 = v7 ∧ j ≤ m ∧ m - j ≤ ky ∧ Hid (zs.length = j) ∧ Hid (wi.ownsRow wo.heap.size 3 1 x7 j (zs.flatMap cl_int)) ∧ Hid (∀ x ∈ zs, In64 x) ∧ Hid (RP B K v l wi (skN (skU l) j t1).1 (skN (skU l) j t1).2) ∧ Hid (wo.grownBy wi (some K)) ∧ Hid (t1.2 = 0 → (skN (skU l) j t1).2 = 0 → zs.flatMap ei = rd l t1.1 (skN (skU l) j t1).1))
        case atStart => exact ⟨0, [], _, rfl, rfl, by omega, Nat.le_refl _, rfl, ⟨rfl, .inl ⟨rfl, rfl⟩⟩, (fun _ h => by cases h), HPc, HGc, fun _ _ => by show _ = rd l t1.1 t1.1; simp [rd]⟩
        case round =>
          obtain ⟨j, zs, xr, rfl, rfl, hj, hky, HZL, HOWj, HZO, HPi, HGi, HZB⟩ := hrel
          obtain ⟨E2, hE2⟩ : ∃ E, E = (skN (skU l) j t1).2 := ⟨_, rfl⟩
          have HE2 : Hid (E2 = (skN (skU l) j t1).2) := hE2
          have hks := HPi.out.ks
          rw [← hE2] at hks
          obtain ⟨c0, c1, c2, cf⟩ := hks.cells
          clear hks hE2 cf c0 c1
          by_cases hlj : j < m
          · have hljz : (j : Int) < (m : Int) := by omega
            by_cases he2 : E2 = 0
            · subst he2
              have kW := kwhole B K v l wr _ _ HPi.out
              go_wp2_with fail
              refine kW.mono ?_
              rintro ev w2 ⟨x, rfl, hx, G⟩
              have HGT : Hid _ := G
              have HOW2 : Hid (w2.ownsRow wo.heap.size 3 1 xr j (zs.flatMap cl_int)) := (HPi.out.ktt G.g).own HOWj.out (by decide)
              have HGW : Hid (wo.grownBy w2 (some K)) := grown_trans' HGi.out G.g
              have hsz2 : wo.heap.size ≤ w2.heap.size := HGW.out.size
              have hz2' : K < w2.heap.size := G.ps.lt
              clear kW G
              go_wp2_with (first | (at_builtin; refine wpList_appK rfl _ _ 123 rfl wo.heap.size 3 j0 (.int .i64 0) 1 8 Try.underlying123 hj0 jz0 jz1 jz2 rfl (by decide) xr j (zs.flatMap cl_int) rfl (World.ownsRow.alloc HOW2.out (.cells #[.int .i64 x] 3)) (.slice (some ⟨w2.heap.size, 0, none⟩) 1 1) 1 [.int .i64 x] rfl (lit_rds' w2 [.int .i64 x] 3 _ rfl) (fun u hu => by simp at hu; subst hu; rfl) (by unfold maxLen; omega) (by omega) (Nat.le_trans hsz2 (by simp)) ?_; intro v3 w3 o3 g3; have HO3 : Hid (w3.ownsRow wo.heap.size 3 1 v3 (j + 1) (zs.flatMap cl_int ++ [.int .i64 x])) := o3; have HG3 : Hid ((w2.alloc (.cells #[.int .i64 x] 3)).grownBy w3 xr.ownBlock) := g3; clear o3 g3))
              have BA : Below (K + 1) w2 w3 := by
                refine ((Below.refl (K + 1) w2).alloc hz2' _).grown HG3.out (Nat.le_trans hz2' (by simp)) fun g hg => ?_
                have := (World.ownsRow.lt (World.ownsRow.alloc HOW2.out (.cells #[.int .i64 x] 3)) g hg).1
                have := HKo.out
                omega
              go_roundg (m - (j + 1))
              case measure => omega
              case rel =>
                have HS2 : skU l (skN (skU l) j t1) = skN (skU l) (j + 1) t1 := (skN_succ (skU l) j t1).symm
                refine ⟨j + 1, zs ++ [x], v3, by go_num, rfl, by omega, Nat.le_refl _, by apply hide; simp [HZL.out], ?_, ?_, ?_, ?_, ?_⟩
                · apply hide
                  have := HO3.out
                  simpa [cl_int] using this
                · intro y hy
                  rcases List.mem_append.1 hy with hy | hy
                  · exact HZO.out y hy
                  · simp at hy
                    subst hy
                    exact hx
                · apply hide
                  rw [← HS2]
                  exact HGT.out.ps.keep BA
                · exact grown_new (grown_trans' HGW.out (grown_alloc _ _ _)) (World.ownsRow.alloc HOW2.out (.cells #[.int .i64 x] 3)) HG3.out
                · intro h0 h2
                  have hle1 := (fwd_n (fwd_u l) j).le t1 HPc.out.le
                  rw [List.flatMap_append, HZB.out h0 HE2.out.symm]
                  rw [← HS2] at h2 ⊢
                  simp only [List.flatMap_cons, List.flatMap_nil, List.append_nil]
                  have hb := HGT.out.b HE2.out.symm h2
                  exact (congrArg (rd l t1.1 (skN (skU l) j t1).1 ++ ·) hb).trans (rd_app l hle1.1 ((fwd_u l).le _ hle1.2).1).symm
            · have hE2b : ((E2 : Int) == 0) = false := by simpa using he2
              obtain ⟨ya, yn, yc, hve⟩ := own_sl HOWj.out
              subst hve
              have xq := BxA.grow HBX.out.1 HGi.out (by omega)
              have c9 : wr.cell? ⟨w.heap.size + 1, 9, none⟩ = some (.slice sa sn sc) := BxA.cell xq 9 _ rfl
              have HXq : Hid _ := xq
              have HSWi : Hid (wr.ownsRow Z3 123 1 (.slice sa sn sc) i (ss.flatMap cl_set)) := (HP.out.ktt HGi.out).own HSW.out (by decide)
              have hszi : Z3 ≤ wr.heap.size := Nat.le_trans HWT.out.1 HGi.out.size
              have hKi : K < wr.heap.size := HPi.out.lt
              clear xq
              go_wp2_with (first | (at_builtin; refine wpList_appK rfl _ _ 33 rfl Z3 123 i0 (.slice none 0 0) 1 24 Try.underlying33 hi0 hz0 hz1 hz2 rfl (by decide) (.slice sa sn sc) i (ss.flatMap cl_set) rfl (World.ownsRow.alloc HSWi.out (.cells #[.slice ya yn yc] 123)) (.slice (some ⟨wr.heap.size, 0, none⟩) 1 1) 1 [.slice ya yn yc] rfl (lit_rds' wr [.slice ya yn yc] 123 _ rfl) (fun u hu => by simp at hu; subst hu; rfl) (by unfold maxLen; omega) (by omega) (Nat.le_trans hszi (by simp)) ?_; intro v3 w3 o3 g3; obtain ⟨xa, xn, xc, rfl⟩ := own_sl o3; have x3 : BxA w3 (w.heap.size + 1) 36 #[.int .i64 F, .int .i64 T, .int .i64 t.k, .int .i64 t.d, .slice a1 n1 m1, .int .i64 t.lo, .int .i64 t.hi, .slice a2 o2 m2, .int .i64 g, .slice sa sn sc, .slice none 0 0, .int .i64 0, .int .i64 0] := (by have hb := HXq.out; unfold BxA at hb ⊢; rw [g3.block _ (by have := BxA.lt HXq.out; simp; omega) (fun e => by have := (World.ownsRow.lt (World.ownsRow.alloc HSWi.out (.cells #[.slice ya yn yc] 123)) _ e.symm).1; omega), Below.heap_alloc _ _ _ (BxA.lt HXq.out)]; exact hb); have z3 : w3.cell? ⟨w.heap.size + 1, 9, none⟩ = some (.slice sa sn sc) := BxA.cell x3 9 _ rfl; have f3 : w3.frozen? ⟨w.heap.size + 1, 9, none⟩ = false := BxA.free x3 9; have H3 : Hid _ := And.intro o3 (And.intro g3 x3); clear o3 g3 x3))
              go_roundg (n - (i + 1))
              case measure => omega
              case rel =>
                obtain ⟨o3, g3, x3⟩ := H3.out
                have gA : wr.grownBy w3 (Value.ownBlock (.slice sa sn sc)) := grown_trans' (grown_alloc _ _ _) g3
                have hrl : ∀ g, Value.ownBlock (.slice sa sn sc) = some g → Z3 ≤ g ∧ g < wo.heap.size := fun g hg => World.ownsRow.lt HSW.out g hg
                have bA : Below (K + 1) wr w3 := ⟨gA.os, gA.tape, gA.output, gA.size, fun j hj => gA.block j (by omega) (fun e => by have := hrl j e.symm; omega)⟩
                have KA : KTT [123, 36] wr (w3.setCell ⟨w.heap.size + 1, 9, none⟩ (.slice xa xn xc)) := ((own_grow (T := [123, 36]) HSWi.out gA (by simp))).trans ((BxA.ktt x3 grown_setCell).mono fun t ht => by simp at ht; simp [ht])
                have HS2 : skL l (skU l) (q, 0) = skN (skL l (skU l)) (i + 1) s1 := by rw [skN_succ, ← HQ.out]
                have es : skL l (skU l) (q, 0) = skN (skU l) j t1 := by
                  show skN (skU l) (cS l q 0 1).1 (cS l q 0 1).2 = _
                  rw [← HM.out.1, ← HM.out.2, show m = j + (m - j) by omega, skN_add]
                  exact skN_stay (fwd_u l).stay _ _ (by rw [← HE2.out]; exact he2)
                refine ⟨i + 1, ss ++ [(.slice ya yn yc, zs)], xa, xn, xc, by go_num, by omega, Nat.le_refl _, by apply hide; simp [HXL.out], ⟨BxA.set x3 9 _, ?_⟩, ?_, ?_, ?_, ?_, ?_, ?_⟩
                · have h2 := BxA.grow HBX.out.2 HGi.out (by omega)
                  refine BxA.other ?_ (by omega)
                  unfold BxA at h2 ⊢
                  rw [gA.block _ (Array.getElem?_eq_some_iff.1 h2).1 (fun e => by have := hrl _ e.symm; omega)]
                  exact h2
                · apply hide
                  have := (Win.grow (own_win o3) (grown_setCell (w := w3) (R := w.heap.size + 1) (j := 9) (u := .slice xa xn xc)) (by omega)).now
                  simpa [cl_set] using this
                · intro y hy
                  rcases List.mem_append.1 hy with hy | hy
                  · exact ((HOK.out y hy).keep (HP.out.ktt HGi.out) (by decide)).keep KA (by decide)
                  · simp at hy
                    subst hy
                    exact ⟨own_mono (KA.own (by rw [HZL.out]; exact HOWj.out) (by decide)) HWT.out.1, HZO.out⟩
                · refine ⟨Nat.le_trans hszi (Nat.le_trans gA.size (by simp)), HWT.out.2.up fun i' h2 h3 => ?_⟩
                  rw [Below.heap_setCell _ _ _ _ (by simp; omega), gA.block i' (by omega) (fun e => by have := hrl _ e.symm; omega)]
                  exact HGi.out.block i' (by have := HWT.out.1; omega) (fun e => by simp only [Option.some.injEq] at e; omega)
                · apply hide
                  rw [← HS2, es]
                  exact (HPi.out.keep bA).keep (grown_above grown_setCell (by omega) (BxA.lt x3))
                · exact fill_grown (grown_new (grown_trans' (grown_trans' HG.out HGi.out) (grown_alloc _ _ _)) (own_mono (World.ownsRow.alloc HSWi.out (.cells #[.slice ya yn yc] 123)) (by omega)) g3) grown_setCell (by omega)
                · intro h0 h2
                  rw [← HS2, es] at h2 ⊢
                  exact absurd h2 (by rw [← HE2.out]; exact he2)
          · have hljz : ¬ (j : Int) < (m : Int) := by omega
            obtain rfl : j = m := by omega
            obtain ⟨ya, yn, yc, hve⟩ := own_sl HOWj.out
            subst hve
            have xq := BxA.grow HBX.out.1 HGi.out (by omega)
            have c9 : wr.cell? ⟨w.heap.size + 1, 9, none⟩ = some (.slice sa sn sc) := BxA.cell xq 9 _ rfl
            have HXq : Hid _ := xq
            have HSWi : Hid (wr.ownsRow Z3 123 1 (.slice sa sn sc) i (ss.flatMap cl_set)) := (HP.out.ktt HGi.out).own HSW.out (by decide)
            have hszi : Z3 ≤ wr.heap.size := Nat.le_trans HWT.out.1 HGi.out.size
            have hKi : K < wr.heap.size := HPi.out.lt
            clear xq
            go_wp2_with (first | (at_builtin; refine wpList_appK rfl _ _ 33 rfl Z3 123 i0 (.slice none 0 0) 1 24 Try.underlying33 hi0 hz0 hz1 hz2 rfl (by decide) (.slice sa sn sc) i (ss.flatMap cl_set) rfl (World.ownsRow.alloc HSWi.out (.cells #[.slice ya yn yc] 123)) (.slice (some ⟨wr.heap.size, 0, none⟩) 1 1) 1 [.slice ya yn yc] rfl (lit_rds' wr [.slice ya yn yc] 123 _ rfl) (fun u hu => by simp at hu; subst hu; rfl) (by unfold maxLen; omega) (by omega) (Nat.le_trans hszi (by simp)) ?_; intro v3 w3 o3 g3; obtain ⟨xa, xn, xc, rfl⟩ := own_sl o3; have x3 : BxA w3 (w.heap.size + 1) 36 #[.int .i64 F, .int .i64 T, .int .i64 t.k, .int .i64 t.d, .slice a1 n1 m1, .int .i64 t.lo, .int .i64 t.hi, .slice a2 o2 m2, .int .i64 g, .slice sa sn sc, .slice none 0 0, .int .i64 0, .int .i64 0] := (by have hb := HXq.out; unfold BxA at hb ⊢; rw [g3.block _ (by have := BxA.lt HXq.out; simp; omega) (fun e => by have := (World.ownsRow.lt (World.ownsRow.alloc HSWi.out (.cells #[.slice ya yn yc] 123)) _ e.symm).1; omega), Below.heap_alloc _ _ _ (BxA.lt HXq.out)]; exact hb); have z3 : w3.cell? ⟨w.heap.size + 1, 9, none⟩ = some (.slice sa sn sc) := BxA.cell x3 9 _ rfl; have f3 : w3.frozen? ⟨w.heap.size + 1, 9, none⟩ = false := BxA.free x3 9; have H3 : Hid _ := And.intro o3 (And.intro g3 x3); clear o3 g3 x3))
            go_roundg (n - (i + 1))
            case measure => omega
            case rel =>
              obtain ⟨o3, g3, x3⟩ := H3.out
              have gA : wr.grownBy w3 (Value.ownBlock (.slice sa sn sc)) := grown_trans' (grown_alloc _ _ _) g3
              have hrl : ∀ g, Value.ownBlock (.slice sa sn sc) = some g → Z3 ≤ g ∧ g < wo.heap.size := fun g hg => World.ownsRow.lt HSW.out g hg
              have bA : Below (K + 1) wr w3 := ⟨gA.os, gA.tape, gA.output, gA.size, fun j hj => gA.block j (by omega) (fun e => by have := hrl j e.symm; omega)⟩
              have KA : KTT [123, 36] wr (w3.setCell ⟨w.heap.size + 1, 9, none⟩ (.slice xa xn xc)) := ((own_grow (T := [123, 36]) HSWi.out gA (by simp))).trans ((BxA.ktt x3 grown_setCell).mono fun t ht => by simp at ht; simp [ht])
              have HS2 : skL l (skU l) (q, 0) = skN (skL l (skU l)) (i + 1) s1 := by rw [skN_succ, ← HQ.out]
              have es : skL l (skU l) (q, 0) = skN (skU l) j t1 := by
                show skN (skU l) (cS l q 0 1).1 (cS l q 0 1).2 = _
                rw [← HM.out.1, ← HM.out.2]
              refine ⟨i + 1, ss ++ [(.slice ya yn yc, zs)], xa, xn, xc, by go_num, by omega, Nat.le_refl _, by apply hide; simp [HXL.out], ⟨BxA.set x3 9 _, ?_⟩, ?_, ?_, ?_, ?_, ?_, ?_⟩
              · have h2 := BxA.grow HBX.out.2 HGi.out (by omega)
                refine BxA.other ?_ (by omega)
                unfold BxA at h2 ⊢
                rw [gA.block _ (Array.getElem?_eq_some_iff.1 h2).1 (fun e => by have := hrl _ e.symm; omega)]
                exact h2
              · apply hide
                have := (Win.grow (own_win o3) (grown_setCell (w := w3) (R := w.heap.size + 1) (j := 9) (u := .slice xa xn xc)) (by omega)).now
                simpa [cl_set] using this
              · intro y hy
                rcases List.mem_append.1 hy with hy | hy
                · exact ((HOK.out y hy).keep (HP.out.ktt HGi.out) (by decide)).keep KA (by decide)
                · simp at hy
                  subst hy
                  exact ⟨own_mono (KA.own (by rw [HZL.out]; exact HOWj.out) (by decide)) HWT.out.1, HZO.out⟩
              · refine ⟨Nat.le_trans hszi (Nat.le_trans gA.size (by simp)), HWT.out.2.up fun i' h2 h3 => ?_⟩
                rw [Below.heap_setCell _ _ _ _ (by simp; omega), gA.block i' (by omega) (fun e => by have := hrl _ e.symm; omega)]
                exact HGi.out.block i' (by have := HWT.out.1; omega) (fun e => by simp only [Option.some.injEq] at e; omega)
              · apply hide
                rw [← HS2, es]
                exact (HPi.out.keep bA).keep (grown_above grown_setCell (by omega) (BxA.lt x3))
              · exact fill_grown (grown_new (grown_trans' (grown_trans' HG.out HGi.out) (grown_alloc _ _ _)) (own_mono (World.ownsRow.alloc HSWi.out (.cells #[.slice ya yn yc] 123)) (by omega)) g3) grown_setCell (by omega)
              · intro h0 h2
                rw [← HS2, es] at h2 ⊢
                have hq0 : (skN (skL l (skU l)) i s1).2 = 0 := by rw [← HQ.out]
                have hq1 : (skN (skL l (skU l)) i s1).1 = q := by rw [← HQ.out]
                have hle1 := (fwd_n (fwd_l (fwd_u l)) i).le s1 HP1.out.le
                rw [List.flatMap_append, HBB.out h0 hq0]
                simp only [List.flatMap_cons, List.flatMap_nil, List.append_nil]
                have ht0 : t1.2 = 0 := Classical.byContradiction fun hn0 => by
                  rw [skN_stay (fwd_u l).stay _ _ hn0] at h2
                  exact hn0 h2
                have hcb := c_bytes l (q, 0) rfl (by show (cS l q 0 1).2.2 = 0; rw [← HM.out.2]; exact ht0)
                have hle0 := (fwd_c l).le (q, 0) hleq
                have hlej := (fwd_n (fwd_u l) j).le t1 HPc.out.le
                have e1 : (skC l (q, 0)).1 = t1.1 := by show (cS l q 0 1).2.1 = _; rw [← HM.out.2]
                have e4 : Num.uv zs.length = rd l q t1.1 := by
                  have := hcb.1
                  rw [e1] at this
                  rw [HZL.out, HM.out.1]
                  exact this
                rw [e1] at hle0
                have hle0' : q ≤ t1.1 := hle0.1
                rw [hq1] at hle1 ⊢
                rw [rd_app l hle1.1 (Nat.le_trans hle0' hlej.1), rd_app l hle0' hlej.1, ← e4, ← HZB.out ht0 h2]
                rfl
      · have hE2 : ((E : Int) == 0) = false := by simpa using he
        have es4 : skL l (skL l (skU l)) s3 = skN (skL l (skU l)) i s1 := by
          show skN (skL l (skU l)) (cS l s3.1 s3.2 1).1 (cS l s3.1 s3.2 1).2 = _
          rw [← HN.out.1, ← HN.out.2, show n = i + (n - i) by omega, skN_add]
          exact skN_stay (fwd_l (fwd_u l)).stay _ _ (by rw [← HEE.out]; exact he)
        obtain ⟨s4, hs4⟩ : ∃ s4 : Sg2, s4 = skN (skL l (skU l)) i s1 := ⟨_, rfl⟩
        have HB4 : Hid (s3.2 = 0 → s4.2 = 0 → Num.uv ss.length ++ ss.flatMap r_set = rd l s3.1 s4.1) := by
          intro h0 h2
          rw [hs4] at h2 ⊢
          exact absurd h2 (by rw [← HEE.out]; exact he)
        have HS4 : Hid (s4 = skL l (skL l (skU l)) s3) := hs4.trans es4.symm
        have ps4 : RP B K v l wo s4.1 s4.2 := by rw [hs4]; exact HP.out
        have hle4 := ps4.le
        have kU := kcount B K v l wo s4.1 s4.2 hlb ps4
        obtain ⟨n2, hn2⟩ : ∃ n, n = (cS l s4.1 s4.2 1).1 := ⟨_, rfl⟩
        obtain ⟨u1, hu1⟩ : ∃ s : Sg2, s = (cS l s4.1 s4.2 1).2 := ⟨_, rfl⟩
        have hnl2 : n2 ≤ 1048576 := by rw [hn2]; exact Nat.le_trans (c_le l s4.1 s4.2 hle4) hlb
        have e1' : (cS l s4.1 s4.2 1).2.1 = u1.1 := by rw [hu1]
        have e2' : (cS l s4.1 s4.2 1).2.2 = u1.2 := by rw [hu1]
        rw [← hn2, e1', e2'] at kU
        have HU : Hid (n2 = (cS l s4.1 s4.2 1).1 ∧ u1 = (cS l s4.1 s4.2 1).2) := ⟨hn2, hu1⟩
        have HSS : Hid (wo.ownsRow Z3 123 1 (.slice sa sn sc) ss.length (ss.flatMap cl_set)) := by rw [HXL.out]; exact HSW.out
        have HPw : Hid (RP B K v l wo s4.1 s4.2) := ps4
        clear es4 hs4 hn2 hu1 e1' e2' ps4
        go_wp2_with fail
        refine kU.mono ?_
        rintro er w5 ⟨rfl, hP5, g5⟩
        have HPu : Hid (RP B K v l w5 u1.1 u1.2) := hP5
        have HX5 : Hid (BxA w5 (w.heap.size + 1) 36 #[.int .i64 F, .int .i64 T, .int .i64 t.k, .int .i64 t.d, .slice a1 n1 m1, .int .i64 t.lo, .int .i64 t.hi, .slice a2 o2 m2, .int .i64 g, .slice sa sn sc, .slice none 0 0, .int .i64 0, .int .i64 0] ∧ BxA w5 w.heap.size 36 #[.int .i64 0, .int .i64 0, .int .i64 0, .int .i64 0, .slice none 0 0, .int .i64 0, .int .i64 0, .slice none 0 0, .int .i64 0, .slice none 0 0, .slice none 0 0, .int .i64 0, .int .i64 0]) := ⟨BxA.grow HBX.out.1 g5 (by omega), BxA.grow HBX.out.2 g5 (by omega)⟩
        have HSS5 : Hid (w5.ownsRow Z3 123 1 (.slice sa sn sc) ss.length (ss.flatMap cl_set)) := (HPw.out.ktt g5).own HSS.out (by decide)
        have HSO5 : Hid (∀ x ∈ ss, SetIn Z3 w5 x) := fun x hx => (HOK.out x hx).keep (HPw.out.ktt g5) (by decide)
        have HW5 : Hid (Z3 ≤ w5.heap.size ∧ Wne (w.heap.size + 1 + 1) Z3 w5 (fun w => t.Ok w)) := ⟨Nat.le_trans HWT.out.1 g5.size, HWT.out.2.up fun i' h2 h3 => g5.block i' (by have := HWT.out.1; omega) (fun e => by simp only [Option.some.injEq] at e; omega)⟩
        have HG5 : Hid (w.grownBy w5 (some K)) := grown_trans' HG.out g5
        clear hP5 g5 kU
        go_wp2_with fail
        go_loopg [9] n2 (fun kz v9 wr => ∃ (k : Nat) (ag : List (Int × Int)) (va : Option Addr) (vn vc : Nat), v9 = .int .i64 (k : Int) ∧ k ≤ n2 ∧ n2 - k ≤ kz ∧ Hid (ag.length = k) ∧ Hid (BxA wr (w.heap.size + 1) 36 #[.int .i64 F, .int .i64 T, .int .i64 t.k, .int .i64 t.d, .slice a1 n1 m1, .int .i64 t.lo, .int .i64 t.hi, .slice a2 o2 m2, .int .i64 g, .slice sa sn sc, .slice va vn vc, .int .i64 0, .int .i64 0] ∧ BxA wr w.heap.size 36 #[.int .i64 0, .int .i64 0, .int .i64 0, .int .i64 0, .slice none 0 0, .int .i64 0, .int .i64 0, .slice none 0 0, .int .i64 0, .slice none 0 0, .slice none 0 0, .int .i64 0, .int .i64 0]) ∧ Hid (wr.ownsRow Z3 128 2 (.slice va vn vc) k (ag.flatMap cl_agg)) ∧ Hid (∀ x ∈ ag, In64 x.1 ∧ In64 x.2) ∧ Hid (wr.ownsRow Z3 123 1 (.slice sa sn sc) ss.length (ss.flatMap cl_set)) ∧ Hid (∀ x ∈ ss, SetIn Z3 wr x) ∧ Hid (Z3 ≤ wr.heap.size ∧ Wne (w.heap.size + 1 + 1) Z3 wr (fun w => t.Ok w)) ∧ Hid (RP B K v l wr (skN (skAgg l) k u1).1 (skN (skAgg l) k u1).2) ∧ Hid (w.grownBy wr (some K)) ∧ Hid (u1.2 = 0 → (skN (skAgg l) k u1).2 = 0 → ag.flatMap r_agg = rd l u1.1 (skN (skAgg l) k u1).1))
        case atStart => exact ⟨0, [], none, 0, 0, rfl, by omega, Nat.le_refl _, rfl, HX5, ⟨rfl, .inl ⟨rfl, rfl⟩⟩, (fun _ h => by cases h), HSS5, HSO5, HW5, HPu, HG5, fun _ _ => by show _ = rd l u1.1 u1.1; simp [rd]⟩
        case round =>
          obtain ⟨k, ag, va, vn, vc, rfl, hk, hkz, HAL, HBA, HAW, HAO, HSA, HSO, HWA, HPa, HGa, HAB⟩ := hrel
          obtain ⟨E3, hE3⟩ : ∃ E, E = (skN (skAgg l) k u1).2 := ⟨_, rfl⟩
          have HE3 : Hid (E3 = (skN (skAgg l) k u1).2) := hE3
          have hks := HPa.out.ks
          rw [← hE3] at hks
          obtain ⟨c0, c1, c2, cf⟩ := hks.cells
          clear hks hE3 cf c0 c1
          by_cases hlk : k < n2
          · have hlkz : (k : Int) < (n2 : Int) := by omega
            by_cases he3 : E3 = 0
            · subst he3
              obtain ⟨qa, hqa⟩ : ∃ q, q = (skN (skAgg l) k u1).1 := ⟨_, rfl⟩
              have HQA : Hid ((qa, 0) = skN (skAgg l) k u1) := Prod.ext hqa HE3.out
              have hlea : ((qa, 0) : Sg2).1 ≤ l.length := by rw [hqa]; exact HPa.out.le
              have ra : RP B K v l wr qa 0 := by have := HPa.out; rw [← hqa, ← HE3.out] at this; exact this
              have ka := kwhole B K v l wr qa 0 ra
              clear ra hqa
              go_wp2_with fail
              refine ka.mono ?_
              rintro er x1 ⟨xk, rfl, ik, Ga⟩
              have kb := kwhole B K v l x1 _ _ Ga.ps
              have HGa1 : Hid _ := And.intro ik Ga
              clear ka ik Ga
              go_wp2_with fail
              refine kb.mono ?_
              rintro er x2 ⟨xc, rfl, ic, Gb⟩
              obtain ⟨ik, Ga⟩ := HGa1.out
              have GP := GK.comp hlea (fwd_u l) (fwd_u l) ⟨Ga.ps, Ga.g, Ga.b⟩ Gb
              have xq := BxA.grow HBA.out.1 GP.g (by omega)
              have c10 : x2.cell? ⟨w.heap.size + 1, 10, none⟩ = some (.slice va vn vc) := BxA.cell xq 10 _ rfl
              have HXq : Hid _ := xq
              have HAWp : Hid (x2.ownsRow Z3 128 2 (.slice va vn vc) k (ag.flatMap cl_agg)) := (HPa.out.ktt GP.g).own HAW.out (by decide)
              have hszp : Z3 ≤ x2.heap.size := Nat.le_trans HWA.out.1 GP.g.size
              have HGP : Hid _ := And.intro ik (And.intro ic GP)
              clear kb ik Ga ic Gb GP xq
              go_wp2_with (first | (at_builtin; refine wpList_appK rfl _ _ 34 rfl Z3 128 l0 (.agg #[.int .i64 0, .int .i64 0]) 2 16 Try.underlying34 hl0 lz0 lz1 lz2 rfl (by decide) (.slice va vn vc) k (ag.flatMap cl_agg) rfl (World.ownsRow.alloc HAWp.out (.cells #[.int .i64 xk, .int .i64 xc] 128)) (.slice (some ⟨x2.heap.size, 0, none⟩) 1 1) 1 [.int .i64 xk, .int .i64 xc] rfl (lit_rds' x2 [.int .i64 xk, .int .i64 xc] 128 _ rfl) (fun u hu => by simp at hu; rcases hu with rfl | rfl <;> rfl) (by unfold maxLen; omega) (by omega) (Nat.le_trans hszp (by simp)) ?_; intro v3 w3 o3 g3; obtain ⟨xa, xn, xd, rfl⟩ := own_sl o3; have x3 : BxA w3 (w.heap.size + 1) 36 #[.int .i64 F, .int .i64 T, .int .i64 t.k, .int .i64 t.d, .slice a1 n1 m1, .int .i64 t.lo, .int .i64 t.hi, .slice a2 o2 m2, .int .i64 g, .slice sa sn sc, .slice va vn vc, .int .i64 0, .int .i64 0] := (by have hb := HXq.out; unfold BxA at hb ⊢; rw [g3.block _ (by have := BxA.lt HXq.out; simp; omega) (fun e => by have := (World.ownsRow.lt (World.ownsRow.alloc HAWp.out (.cells #[.int .i64 xk, .int .i64 xc] 128)) _ e.symm).1; omega), Below.heap_alloc _ _ _ (BxA.lt HXq.out)]; exact hb); have z3 : w3.cell? ⟨w.heap.size + 1, 10, none⟩ = some (.slice va vn vc) := BxA.cell x3 10 _ rfl; have f3 : w3.frozen? ⟨w.heap.size + 1, 10, none⟩ = false := BxA.free x3 10; have H3 : Hid _ := And.intro o3 (And.intro g3 x3); clear o3 g3 x3))
              go_roundg (n2 - (k + 1))
              case measure => omega
              case rel =>
                obtain ⟨o3, g3, x3⟩ := H3.out
                obtain ⟨ik, ic, GP⟩ := HGP.out
                have gA : x2.grownBy w3 (Value.ownBlock (.slice va vn vc)) := grown_trans' (grown_alloc _ _ _) g3
                have hrl : ∀ g, Value.ownBlock (.slice va vn vc) = some g → Z3 ≤ g ∧ g < wr.heap.size := fun g hg => World.ownsRow.lt HAW.out g hg
                have hK2 : K < x2.heap.size := GP.ps.lt
                have bA : Below (K + 1) x2 w3 := ⟨gA.os, gA.tape, gA.output, gA.size, fun j hj => gA.block j (by omega) (fun e => by have := hrl j e.symm; omega)⟩
                have KA : KTT [128, 36] x2 (w3.setCell ⟨w.heap.size + 1, 10, none⟩ (.slice xa xn xd)) := ((own_grow (T := [128, 36]) HAWp.out gA (by simp))).trans ((BxA.ktt x3 grown_setCell).mono fun t ht => by simp at ht; simp [ht])
                have HS2 : skAgg l (qa, 0) = skN (skAgg l) (k + 1) u1 := by rw [skN_succ, ← HQA.out]
                refine ⟨k + 1, ag ++ [(xk, xc)], xa, xn, xd, by go_num, by omega, Nat.le_refl _, by apply hide; simp [HAL.out], ⟨BxA.set x3 10 _, ?_⟩, ?_, ?_, ?_, ?_, ?_, ?_, ?_, ?_⟩
                · have h2 := BxA.grow HBA.out.2 GP.g (by omega)
                  refine BxA.other ?_ (by omega)
                  unfold BxA at h2 ⊢
                  rw [gA.block _ (Array.getElem?_eq_some_iff.1 h2).1 (fun e => by have := hrl _ e.symm; omega)]
                  exact h2
                · apply hide
                  have := (Win.grow (own_win o3) (grown_setCell (w := w3) (R := w.heap.size + 1) (j := 10) (u := .slice xa xn xd)) (by omega)).now
                  simpa [cl_agg] using this
                · intro y hy
                  rcases List.mem_append.1 hy with hy | hy
                  · exact HAO.out y hy
                  · simp at hy
                    subst hy
                    exact ⟨ik, ic⟩
                · exact KA.own ((HPa.out.ktt GP.g).own HSA.out (by decide)) (by decide)
                · exact fun x hx => ((HSO.out x hx).keep (HPa.out.ktt GP.g) (by decide)).keep KA (by decide)
                · refine ⟨Nat.le_trans hszp (Nat.le_trans gA.size (by simp)), HWA.out.2.up fun i' h2 h3 => ?_⟩
                  rw [Below.heap_setCell _ _ _ _ (by simp; omega), gA.block i' (by omega) (fun e => by have := hrl _ e.symm; omega)]
                  exact GP.g.block i' (by have := HWA.out.1; omega) (fun e => by simp only [Option.some.injEq] at e; omega)
                · apply hide
                  rw [← HS2]
                  exact (GP.ps.keep bA).keep (grown_above grown_setCell (by omega) (BxA.lt x3))
                · exact fill_grown (grown_new (grown_trans' (grown_trans' HGa.out GP.g) (grown_alloc _ _ _)) (own_mono (World.ownsRow.alloc HAWp.out (.cells #[.int .i64 xk, .int .i64 xc] 128)) (by omega)) g3) grown_setCell (by omega)
                · intro h0 h2
                  have hle1 := (fwd_n (fwd_agg l) k).le u1 HPu.out.le
                  have hq0 : (skN (skAgg l) k u1).2 = 0 := by rw [← HQA.out]
                  have hq1 : (skN (skAgg l) k u1).1 = qa := by rw [← HQA.out]
                  rw [List.flatMap_append, HAB.out h0 hq0]
                  rw [← HS2] at h2 ⊢
                  simp only [List.flatMap_cons, List.flatMap_nil, List.append_nil]
                  have hb := GP.b rfl h2
                  rw [hq1] at hle1 ⊢
                  exact (congrArg (rd l u1.1 qa ++ ·) hb).trans (rd_app l hle1.1 ((fwd_agg l).le (qa, 0) hle1.2).1).symm
            · have hE3b : ((E3 : Int) == 0) = false := by simpa using he3
              have es5 : skL l (skAgg l) s4 = skN (skAgg l) k u1 := by
                show skN (skAgg l) (cS l s4.1 s4.2 1).1 (cS l s4.1 s4.2 1).2 = _
                rw [← HU.out.1, ← HU.out.2, show n2 = k + (n2 - k) by omega, skN_add]
                exact skN_stay (fwd_agg l).stay _ _ (by rw [← HE3.out]; exact he3)
              obtain ⟨s5, hs5⟩ : ∃ s5 : Sg2, s5 = skN (skAgg l) k u1 := ⟨_, rfl⟩
              have HB5 : Hid (s4.2 = 0 → s5.2 = 0 → Num.uv ag.length ++ ag.flatMap r_agg = rd l s4.1 s5.1) := by
                intro h0 h2
                rw [hs5] at h2 ⊢
                exact absurd h2 (by rw [← HE3.out]; exact he3)
              have HS5 : Hid (s5 = skL l (skAgg l) s4) := hs5.trans es5.symm
              have ps5 : RP B K v l wr s5.1 s5.2 := by rw [hs5]; exact HPa.out
              have hle5 := ps5.le
              have kG := kwhole B K v l wr s5.1 s5.2 ps5
              clear es5 hs5 ps5
              go_wp2_with fail
              refine kG.mono ?_
              rintro er w7 ⟨GR, rfl, iG, G7⟩
              have xq7 := BxA.grow HBA.out.1 G7.g (by omega)
              have z11 : w7.cell? ⟨w.heap.size + 1, 11, none⟩ = some (.int .i64 0) := BxA.cell xq7 11 _ rfl
              have f11 : w7.frozen? ⟨w.heap.size + 1, 11, none⟩ = false := BxA.free xq7 11
              obtain ⟨Y7, hY7⟩ : ∃ Y, Y = w7.setCell ⟨w.heap.size + 1, 11, none⟩ (.int .i64 GR) := ⟨_, rfl⟩
              have x7 : BxA Y7 (w.heap.size + 1) 36 #[.int .i64 F, .int .i64 T, .int .i64 t.k, .int .i64 t.d, .slice a1 n1 m1, .int .i64 t.lo, .int .i64 t.hi, .slice a2 o2 m2, .int .i64 g, .slice sa sn sc, .slice va vn vc, .int .i64 GR, .int .i64 0] := by rw [hY7]; exact BxA.set xq7 11 _
              have o7 : BxA Y7 w.heap.size 36 #[.int .i64 0, .int .i64 0, .int .i64 0, .int .i64 0, .slice none 0 0, .int .i64 0, .int .i64 0, .slice none 0 0, .int .i64 0, .slice none 0 0, .slice none 0 0, .int .i64 0, .int .i64 0] := by rw [hY7]; exact BxA.other (BxA.grow HBA.out.2 G7.g (by omega)) (by omega)
              have p7 : RP B K v l Y7 (skU l s5).1 (skU l s5).2 := by rw [hY7]; exact G7.ps.keep (grown_above grown_setCell (by omega) (BxA.lt xq7))
              have g7 : w7.grownBy Y7 (some (w.heap.size + 1)) := by rw [hY7]; exact grown_setCell
              have kR := kwhole B K v l Y7 _ _ p7
              have HY7 : Hid (Y7 = _) := hY7
              have H7 : Hid _ := And.intro iG (And.intro G7 (And.intro x7 (And.intro o7 (And.intro g7 (BxA.lt xq7)))))
              clear kG hY7 x7 o7 p7 xq7 iG G7 g7
              go_wp2_with fail
              rw [← HY7.out]
              refine kR.mono ?_
              rintro er w8 ⟨RO, rfl, iR, G8⟩
              obtain ⟨iG, G7, x7, o7, g7, lt7⟩ := H7.out
              have xq8 := BxA.grow x7 G8.g (by omega)
              have z12 : w8.cell? ⟨w.heap.size + 1, 12, none⟩ = some (.int .i64 0) := BxA.cell xq8 12 _ rfl
              have f12 : w8.frozen? ⟨w.heap.size + 1, 12, none⟩ = false := BxA.free xq8 12
              obtain ⟨Y8, hY8⟩ : ∃ Y, Y = w8.setCell ⟨w.heap.size + 1, 12, none⟩ (.int .i64 RO) := ⟨_, rfl⟩
              have x8 : BxA Y8 (w.heap.size + 1) 36 #[.int .i64 F, .int .i64 T, .int .i64 t.k, .int .i64 t.d, .slice a1 n1 m1, .int .i64 t.lo, .int .i64 t.hi, .slice a2 o2 m2, .int .i64 g, .slice sa sn sc, .slice va vn vc, .int .i64 GR, .int .i64 RO] := by rw [hY8]; exact BxA.set xq8 12 _
              have o8 : BxA Y8 w.heap.size 36 #[.int .i64 0, .int .i64 0, .int .i64 0, .int .i64 0, .slice none 0 0, .int .i64 0, .int .i64 0, .slice none 0 0, .int .i64 0, .slice none 0 0, .slice none 0 0, .int .i64 0, .int .i64 0] := by rw [hY8]; exact BxA.other (BxA.grow o7 G8.g (by omega)) (by omega)
              have g8 : w8.grownBy Y8 (some (w.heap.size + 1)) := by rw [hY8]; exact grown_setCell
              have HY8 : Hid (Y8 = _) := hY8
              have H8 : Hid _ := And.intro iR (And.intro G8 (And.intro x8 (And.intro o8 (And.intro g8 (BxA.lt xq8)))))
              clear kR hY8 x8 o8 xq8 iR G8 g8 iG G7 x7 o7 g7 lt7
              go_upto_region 25 with fail
              rw [← HY8.out]
              clear z11 f11 z12 f12
              go_wp2_with (first | (refine wpList_load_row rfl 36 (.tmp 3) rfl (w.heap.size + 1) rfl 36 _ (0, 0) _ H8.out.2.2.1 Try.underlying36 rfl (by kernel_rfl) ?_) | (refine wpList_store_row rfl 36 (.tmp 2) (.tmp 92) rfl w.heap.size 36 #[.int .i64 0, .int .i64 0, .int .i64 0, .int .i64 0, .slice none 0 0, .int .i64 0, .int .i64 0, .slice none 0 0, .int .i64 0, .slice none 0 0, .slice none 0 0, .int .i64 0, .int .i64 0] #[.int .i64 F, .int .i64 T, .int .i64 t.k, .int .i64 t.d, .slice a1 n1 m1, .int .i64 t.lo, .int .i64 t.hi, .slice a2 o2 m2, .int .i64 g, .slice sa sn sc, .slice va vn vc, .int .i64 GR, .int .i64 RO] H8.out.2.2.2.1 rfl rfl (by kernel_rfl) rfl (by first | rfl | simp [Value.oneCell']) ?_))
              obtain ⟨iG, G7, x7, o7, g7, lt7⟩ := H7.out
              obtain ⟨iR, G8, x8, o8, g8, lt8⟩ := H8.out
              refine bodyPost_ret (results_cell_row rfl _ _ w.heap.size 36 #[.int .i64 F, .int .i64 T, .int .i64 t.k, .int .i64 t.d, .slice a1 n1 m1, .int .i64 t.lo, .int .i64 t.hi, .slice a2 o2 m2, .int .i64 g, .slice sa sn sc, .slice va vn vc, .int .i64 GR, .int .i64 RO] (0, 0) _ rfl (setRow_heap _ _ _ _ _ _ o8) Try.underlying36 rfl (by kernel_rfl)) rfl ?_
              have gY := setRow_grown Y8 w.heap.size #[.int .i64 F, .int .i64 T, .int .i64 t.k, .int .i64 t.d, .slice a1 n1 m1, .int .i64 t.lo, .int .i64 t.hi, .slice a2 o2 m2, .int .i64 g, .slice sa sn sc, .slice va vn vc, .int .i64 GR, .int .i64 RO]
              have lo8 := BxA.lt o8
              have gall : wr.grownBy Y8 (some K) ∨ True := .inr trivial
              have hkeep : ∀ j, w.heap.size + 1 + 1 ≤ j → j < wr.heap.size → (Y8.setRow w.heap.size #[.int .i64 F, .int .i64 T, .int .i64 t.k, .int .i64 t.d, .slice a1 n1 m1, .int .i64 t.lo, .int .i64 t.hi, .slice a2 o2 m2, .int .i64 g, .slice sa sn sc, .slice va vn vc, .int .i64 GR, .int .i64 RO]).heap[j]? = wr.heap[j]? := fun j h1 h2 => by
                have s7 := G7.g.size
                have s7' := g7.size
                have s8 := G8.g.size
                have s8' := g8.size
                rw [gY.block j (by omega) (fun e => by simp only [Option.some.injEq] at e; omega), g8.block j (by omega) (fun e => by simp only [Option.some.injEq] at e; omega), G8.g.block j (by omega) (fun e => by simp only [Option.some.injEq] at e; omega), g7.block j (by omega) (fun e => by simp only [Option.some.injEq] at e; omega), G7.g.block j (by omega) (fun e => by simp only [Option.some.injEq] at e; omega)]
              have hsz : wr.heap.size ≤ (Y8.setRow w.heap.size #[.int .i64 F, .int .i64 T, .int .i64 t.k, .int .i64 t.d, .slice a1 n1 m1, .int .i64 t.lo, .int .i64 t.hi, .slice a2 o2 m2, .int .i64 g, .slice sa sn sc, .slice va vn vc, .int .i64 GR, .int .i64 RO]).heap.size := Nat.le_trans G7.g.size (Nat.le_trans g7.size (Nat.le_trans G8.g.size (Nat.le_trans g8.size gY.size)))
              have q3 := HQ3.out
              refine ⟨⟨F, T, t, g, .slice sa sn sc, ss, .slice va vn vc, ag, GR, RO⟩, by rw [q3.e1, q3.e2], ?_, ⟨⟨_, _, _, q3.e1⟩, ⟨_, _, _, q3.e2⟩, ⟨_, _, _, rfl⟩, ⟨_, _, _, rfl⟩⟩, ?_, ?_, ?_⟩
              · have w1 := Wne.win HWA.out.2 HWA.out.1
                have w2 := (Win.mono (((own_win HSA.out).both (own_win HAW.out)).both (Win.all fun x hx => (HSO.out x hx).win)) hNZ).both w1
                exact ((w2.up hsz hkeep).imp fun _ r => ⟨q3.iF, q3.iT, r.2, q3.it, q3.ig, Fi.RdsK.of_own r.1.1.1, fun x hx => ⟨Fi.RdsK.of_own (r.1.2 x hx).1, (r.1.2 x hx).2⟩, (show Fi.RdsK 2 _ (.slice va vn vc) ag.length (ag.flatMap cl_agg) from by rw [HAL.out]; exact Fi.RdsK.of_own r.1.1.2), HAO.out, iG, iR⟩).mono (by omega)
              · have hp := (G8.ps.keep (grown_above g8 (by omega) lt8)).keep (grown_above gY (by omega) lo8)
                have e1 : skU l (skU l (skL l (skAgg l) (skL l (skL l (skU l)) (skU l (skFil l kd (skSpan l (p, e))))))) = skU l (skU l s5) := by rw [HS5.out, HS4.out, HS3.out]
                show RP B K v l _ (skU l (skU l (skL l (skAgg l) (skL l (skL l (skU l)) (skU l (skFil l kd (skSpan l (p, e)))))))).1 (skU l (skU l (skL l (skAgg l) (skL l (skL l (skU l)) (skU l (skFil l kd (skSpan l (p, e)))))))).2
                rw [e1]
                exact hp
              · exact fill_grown (fill_grown (grown_trans' (fill_grown (grown_trans' HGa.out G7.g) g7 (by omega)) G8.g) g8 (by omega)) gY (Nat.le_refl _)
              · intro h0 h2
                have e1 : skU l (skU l (skL l (skAgg l) (skL l (skL l (skU l)) (skU l (skFil l kd (skSpan l (p, e))))))) = skU l (skU l s5) := by rw [HS5.out, HS4.out, HS3.out]
                have h2' : (skU l (skU l s5)).2 = 0 := by rw [← e1]; exact h2
                have n6 : (skU l s5).2 = 0 := Classical.byContradiction fun hn => hn (by have := (fwd_u l).stay _ hn; rw [this] at h2'; exact h2')
                have n5 : s5.2 = 0 := Classical.byContradiction fun hn => hn (by have := (fwd_u l).stay _ hn; rw [this] at n6; exact n6)
                have n4 : s4.2 = 0 := Classical.byContradiction fun hn => hn (by have := (fwd_l (fwd_agg l)).stay _ hn; rw [← HS5.out] at this; rw [this] at n5; exact n5)
                have n3 : s3.2 = 0 := Classical.byContradiction fun hn => hn (by have := (fwd_l (fwd_l (fwd_u l))).stay _ hn; rw [← HS4.out] at this; rw [this] at n4; exact n4)
                have a3 := q3.G.b h0 (by have := n3; rw [HS3.out] at this; exact this)
                have a3' : (r_span F T ++ r_fil t) ++ ei g = rd l p s3.1 := by rw [HS3.out]; exact a3
                have a4 := HB4.out n3 n4
                have a5 := HB5.out n4 n5
                have a6 := G7.b n5 n6
                have a7 := G8.b n6 h2'
                have l3 : p ≤ s3.1 := by rw [HS3.out]; exact ((((fwd_span l).comp (fwd_fil l kd)).comp (fwd_u l)).le (p, e) hple).1
                have l3' : s3.1 ≤ l.length := HP3.out.le
                have l4 := (fwd_l (fwd_l (fwd_u l))).le s3 l3'
                rw [← HS4.out] at l4
                have l5 := (fwd_l (fwd_agg l)).le s4 l4.2
                rw [← HS5.out] at l5
                have l6 := (fwd_u l).le s5 l5.2
                have l7 := (fwd_u l).le (skU l s5) l6.2
                show r_query _ = rd l p (skU l (skU l (skL l (skAgg l) (skL l (skL l (skU l)) (skU l (skFil l kd (skSpan l (p, e)))))))).1
                rw [e1, rd_app l l3 (Nat.le_trans l4.1 (Nat.le_trans l5.1 (Nat.le_trans l6.1 l7.1))), ← a3', rd_app l l4.1 (Nat.le_trans l5.1 (Nat.le_trans l6.1 l7.1)), ← a4, rd_app l l5.1 (Nat.le_trans l6.1 l7.1), ← a5, rd_app l l6.1 l7.1, ← a6, ← a7]
                simp only [r_query, List.append_assoc]

          · have hlkz : ¬ (k : Int) < (n2 : Int) := by omega
            obtain rfl : k = n2 := by omega
            have es5 : skL l (skAgg l) s4 = skN (skAgg l) k u1 := by
              show skN (skAgg l) (cS l s4.1 s4.2 1).1 (cS l s4.1 s4.2 1).2 = _
              rw [← HU.out.1, ← HU.out.2]
            obtain ⟨s5, hs5⟩ : ∃ s5 : Sg2, s5 = skN (skAgg l) k u1 := ⟨_, rfl⟩
            have HB5 : Hid (s4.2 = 0 → s5.2 = 0 → Num.uv ag.length ++ ag.flatMap r_agg = rd l s4.1 s5.1) := by
              intro h0 h2
              rw [hs5] at h2 ⊢
              have ht0 : u1.2 = 0 := Classical.byContradiction fun hn0 => by
                rw [skN_stay (fwd_agg l).stay _ _ hn0] at h2
                exact hn0 h2
              have hcb := c_bytes l s4 h0 (by show (cS l s4.1 s4.2 1).2.2 = 0; rw [← HU.out.2]; exact ht0)
              have hle0 := (fwd_c l).le s4 hle4
              have hlej := (fwd_n (fwd_agg l) k).le u1 HPu.out.le
              have e1 : (skC l s4).1 = u1.1 := by show (cS l s4.1 s4.2 1).2.1 = _; rw [← HU.out.2]
              have e4 : Num.uv ag.length = rd l s4.1 u1.1 := by
                have := hcb.1
                rw [e1] at this
                rw [HAL.out, HU.out.1]
                exact this
              rw [e1] at hle0
              rw [rd_app l hle0.1 hlej.1, ← e4, ← HAB.out ht0 h2]
            have HS5 : Hid (s5 = skL l (skAgg l) s4) := hs5.trans es5.symm
            have ps5 : RP B K v l wr s5.1 s5.2 := by rw [hs5]; exact HPa.out
            have hle5 := ps5.le
            have kG := kwhole B K v l wr s5.1 s5.2 ps5
            clear es5 hs5 ps5
            go_wp2_with fail
            refine kG.mono ?_
            rintro er w7 ⟨GR, rfl, iG, G7⟩
            have xq7 := BxA.grow HBA.out.1 G7.g (by omega)
            have z11 : w7.cell? ⟨w.heap.size + 1, 11, none⟩ = some (.int .i64 0) := BxA.cell xq7 11 _ rfl
            have f11 : w7.frozen? ⟨w.heap.size + 1, 11, none⟩ = false := BxA.free xq7 11
            obtain ⟨Y7, hY7⟩ : ∃ Y, Y = w7.setCell ⟨w.heap.size + 1, 11, none⟩ (.int .i64 GR) := ⟨_, rfl⟩
            have x7 : BxA Y7 (w.heap.size + 1) 36 #[.int .i64 F, .int .i64 T, .int .i64 t.k, .int .i64 t.d, .slice a1 n1 m1, .int .i64 t.lo, .int .i64 t.hi, .slice a2 o2 m2, .int .i64 g, .slice sa sn sc, .slice va vn vc, .int .i64 GR, .int .i64 0] := by rw [hY7]; exact BxA.set xq7 11 _
            have o7 : BxA Y7 w.heap.size 36 #[.int .i64 0, .int .i64 0, .int .i64 0, .int .i64 0, .slice none 0 0, .int .i64 0, .int .i64 0, .slice none 0 0, .int .i64 0, .slice none 0 0, .slice none 0 0, .int .i64 0, .int .i64 0] := by rw [hY7]; exact BxA.other (BxA.grow HBA.out.2 G7.g (by omega)) (by omega)
            have p7 : RP B K v l Y7 (skU l s5).1 (skU l s5).2 := by rw [hY7]; exact G7.ps.keep (grown_above grown_setCell (by omega) (BxA.lt xq7))
            have g7 : w7.grownBy Y7 (some (w.heap.size + 1)) := by rw [hY7]; exact grown_setCell
            have kR := kwhole B K v l Y7 _ _ p7
            have HY7 : Hid (Y7 = _) := hY7
            have H7 : Hid _ := And.intro iG (And.intro G7 (And.intro x7 (And.intro o7 (And.intro g7 (BxA.lt xq7)))))
            clear kG hY7 x7 o7 p7 xq7 iG G7 g7
            go_wp2_with fail
            rw [← HY7.out]
            refine kR.mono ?_
            rintro er w8 ⟨RO, rfl, iR, G8⟩
            obtain ⟨iG, G7, x7, o7, g7, lt7⟩ := H7.out
            have xq8 := BxA.grow x7 G8.g (by omega)
            have z12 : w8.cell? ⟨w.heap.size + 1, 12, none⟩ = some (.int .i64 0) := BxA.cell xq8 12 _ rfl
            have f12 : w8.frozen? ⟨w.heap.size + 1, 12, none⟩ = false := BxA.free xq8 12
            obtain ⟨Y8, hY8⟩ : ∃ Y, Y = w8.setCell ⟨w.heap.size + 1, 12, none⟩ (.int .i64 RO) := ⟨_, rfl⟩
            have x8 : BxA Y8 (w.heap.size + 1) 36 #[.int .i64 F, .int .i64 T, .int .i64 t.k, .int .i64 t.d, .slice a1 n1 m1, .int .i64 t.lo, .int .i64 t.hi, .slice a2 o2 m2, .int .i64 g, .slice sa sn sc, .slice va vn vc, .int .i64 GR, .int .i64 RO] := by rw [hY8]; exact BxA.set xq8 12 _
            have o8 : BxA Y8 w.heap.size 36 #[.int .i64 0, .int .i64 0, .int .i64 0, .int .i64 0, .slice none 0 0, .int .i64 0, .int .i64 0, .slice none 0 0, .int .i64 0, .slice none 0 0, .slice none 0 0, .int .i64 0, .int .i64 0] := by rw [hY8]; exact BxA.other (BxA.grow o7 G8.g (by omega)) (by omega)
            have g8 : w8.grownBy Y8 (some (w.heap.size + 1)) := by rw [hY8]; exact grown_setCell
            have HY8 : Hid (Y8 = _) := hY8
            have H8 : Hid _ := And.intro iR (And.intro G8 (And.intro x8 (And.intro o8 (And.intro g8 (BxA.lt xq8)))))
            clear kR hY8 x8 o8 xq8 iR G8 g8 iG G7 x7 o7 g7 lt7
            go_upto_region 25 with fail
            rw [← HY8.out]
            clear z11 f11 z12 f12
            go_wp2_with (first | (refine wpList_load_row rfl 36 (.tmp 3) rfl (w.heap.size + 1) rfl 36 _ (0, 0) _ H8.out.2.2.1 Try.underlying36 rfl (by kernel_rfl) ?_) | (refine wpList_store_row rfl 36 (.tmp 2) (.tmp 92) rfl w.heap.size 36 #[.int .i64 0, .int .i64 0, .int .i64 0, .int .i64 0, .slice none 0 0, .int .i64 0, .int .i64 0, .slice none 0 0, .int .i64 0, .slice none 0 0, .slice none 0 0, .int .i64 0, .int .i64 0] #[.int .i64 F, .int .i64 T, .int .i64 t.k, .int .i64 t.d, .slice a1 n1 m1, .int .i64 t.lo, .int .i64 t.hi, .slice a2 o2 m2, .int .i64 g, .slice sa sn sc, .slice va vn vc, .int .i64 GR, .int .i64 RO] H8.out.2.2.2.1 rfl rfl (by kernel_rfl) rfl (by first | rfl | simp [Value.oneCell']) ?_))
            obtain ⟨iG, G7, x7, o7, g7, lt7⟩ := H7.out
            obtain ⟨iR, G8, x8, o8, g8, lt8⟩ := H8.out
            refine bodyPost_ret (results_cell_row rfl _ _ w.heap.size 36 #[.int .i64 F, .int .i64 T, .int .i64 t.k, .int .i64 t.d, .slice a1 n1 m1, .int .i64 t.lo, .int .i64 t.hi, .slice a2 o2 m2, .int .i64 g, .slice sa sn sc, .slice va vn vc, .int .i64 GR, .int .i64 RO] (0, 0) _ rfl (setRow_heap _ _ _ _ _ _ o8) Try.underlying36 rfl (by kernel_rfl)) rfl ?_
            have gY := setRow_grown Y8 w.heap.size #[.int .i64 F, .int .i64 T, .int .i64 t.k, .int .i64 t.d, .slice a1 n1 m1, .int .i64 t.lo, .int .i64 t.hi, .slice a2 o2 m2, .int .i64 g, .slice sa sn sc, .slice va vn vc, .int .i64 GR, .int .i64 RO]
            have lo8 := BxA.lt o8
            have gall : wr.grownBy Y8 (some K) ∨ True := .inr trivial
            have hkeep : ∀ j, w.heap.size + 1 + 1 ≤ j → j < wr.heap.size → (Y8.setRow w.heap.size #[.int .i64 F, .int .i64 T, .int .i64 t.k, .int .i64 t.d, .slice a1 n1 m1, .int .i64 t.lo, .int .i64 t.hi, .slice a2 o2 m2, .int .i64 g, .slice sa sn sc, .slice va vn vc, .int .i64 GR, .int .i64 RO]).heap[j]? = wr.heap[j]? := fun j h1 h2 => by
              have s7 := G7.g.size
              have s7' := g7.size
              have s8 := G8.g.size
              have s8' := g8.size
              rw [gY.block j (by omega) (fun e => by simp only [Option.some.injEq] at e; omega), g8.block j (by omega) (fun e => by simp only [Option.some.injEq] at e; omega), G8.g.block j (by omega) (fun e => by simp only [Option.some.injEq] at e; omega), g7.block j (by omega) (fun e => by simp only [Option.some.injEq] at e; omega), G7.g.block j (by omega) (fun e => by simp only [Option.some.injEq] at e; omega)]
            have hsz : wr.heap.size ≤ (Y8.setRow w.heap.size #[.int .i64 F, .int .i64 T, .int .i64 t.k, .int .i64 t.d, .slice a1 n1 m1, .int .i64 t.lo, .int .i64 t.hi, .slice a2 o2 m2, .int .i64 g, .slice sa sn sc, .slice va vn vc, .int .i64 GR, .int .i64 RO]).heap.size := Nat.le_trans G7.g.size (Nat.le_trans g7.size (Nat.le_trans G8.g.size (Nat.le_trans g8.size gY.size)))
            have q3 := HQ3.out
            refine ⟨⟨F, T, t, g, .slice sa sn sc, ss, .slice va vn vc, ag, GR, RO⟩, by rw [q3.e1, q3.e2], ?_, ⟨⟨_, _, _, q3.e1⟩, ⟨_, _, _, q3.e2⟩, ⟨_, _, _, rfl⟩, ⟨_, _, _, rfl⟩⟩, ?_, ?_, ?_⟩
            · have w1 := Wne.win HWA.out.2 HWA.out.1
              have w2 := (Win.mono (((own_win HSA.out).both (own_win HAW.out)).both (Win.all fun x hx => (HSO.out x hx).win)) hNZ).both w1
              exact ((w2.up hsz hkeep).imp fun _ r => ⟨q3.iF, q3.iT, r.2, q3.it, q3.ig, Fi.RdsK.of_own r.1.1.1, fun x hx => ⟨Fi.RdsK.of_own (r.1.2 x hx).1, (r.1.2 x hx).2⟩, (show Fi.RdsK 2 _ (.slice va vn vc) ag.length (ag.flatMap cl_agg) from by rw [HAL.out]; exact Fi.RdsK.of_own r.1.1.2), HAO.out, iG, iR⟩).mono (by omega)
            · have hp := (G8.ps.keep (grown_above g8 (by omega) lt8)).keep (grown_above gY (by omega) lo8)
              have e1 : skU l (skU l (skL l (skAgg l) (skL l (skL l (skU l)) (skU l (skFil l kd (skSpan l (p, e))))))) = skU l (skU l s5) := by rw [HS5.out, HS4.out, HS3.out]
              show RP B K v l _ (skU l (skU l (skL l (skAgg l) (skL l (skL l (skU l)) (skU l (skFil l kd (skSpan l (p, e)))))))).1 (skU l (skU l (skL l (skAgg l) (skL l (skL l (skU l)) (skU l (skFil l kd (skSpan l (p, e)))))))).2
              rw [e1]
              exact hp
            · exact fill_grown (fill_grown (grown_trans' (fill_grown (grown_trans' HGa.out G7.g) g7 (by omega)) G8.g) g8 (by omega)) gY (Nat.le_refl _)
            · intro h0 h2
              have e1 : skU l (skU l (skL l (skAgg l) (skL l (skL l (skU l)) (skU l (skFil l kd (skSpan l (p, e))))))) = skU l (skU l s5) := by rw [HS5.out, HS4.out, HS3.out]
              have h2' : (skU l (skU l s5)).2 = 0 := by rw [← e1]; exact h2
              have n6 : (skU l s5).2 = 0 := Classical.byContradiction fun hn => hn (by have := (fwd_u l).stay _ hn; rw [this] at h2'; exact h2')
              have n5 : s5.2 = 0 := Classical.byContradiction fun hn => hn (by have := (fwd_u l).stay _ hn; rw [this] at n6; exact n6)
              have n4 : s4.2 = 0 := Classical.byContradiction fun hn => hn (by have := (fwd_l (fwd_agg l)).stay _ hn; rw [← HS5.out] at this; rw [this] at n5; exact n5)
              have n3 : s3.2 = 0 := Classical.byContradiction fun hn => hn (by have := (fwd_l (fwd_l (fwd_u l))).stay _ hn; rw [← HS4.out] at this; rw [this] at n4; exact n4)
              have a3 := q3.G.b h0 (by have := n3; rw [HS3.out] at this; exact this)
              have a3' : (r_span F T ++ r_fil t) ++ ei g = rd l p s3.1 := by rw [HS3.out]; exact a3
              have a4 := HB4.out n3 n4
              have a5 := HB5.out n4 n5
              have a6 := G7.b n5 n6
              have a7 := G8.b n6 h2'
              have l3 : p ≤ s3.1 := by rw [HS3.out]; exact ((((fwd_span l).comp (fwd_fil l kd)).comp (fwd_u l)).le (p, e) hple).1
              have l3' : s3.1 ≤ l.length := HP3.out.le
              have l4 := (fwd_l (fwd_l (fwd_u l))).le s3 l3'
              rw [← HS4.out] at l4
              have l5 := (fwd_l (fwd_agg l)).le s4 l4.2
              rw [← HS5.out] at l5
              have l6 := (fwd_u l).le s5 l5.2
              have l7 := (fwd_u l).le (skU l s5) l6.2
              show r_query _ = rd l p (skU l (skU l (skL l (skAgg l) (skL l (skL l (skU l)) (skU l (skFil l kd (skSpan l (p, e)))))))).1
              rw [e1, rd_app l l3 (Nat.le_trans l4.1 (Nat.le_trans l5.1 (Nat.le_trans l6.1 l7.1))), ← a3', rd_app l l4.1 (Nat.le_trans l5.1 (Nat.le_trans l6.1 l7.1)), ← a4, rd_app l l5.1 (Nat.le_trans l6.1 l7.1), ← a5, rd_app l l6.1 l7.1, ← a6, ← a7]
              simp only [r_query, List.append_assoc]
    · have hltz : ¬ (i : Int) < (n : Int) := by omega
      obtain rfl : i = n := by omega
      have es4 : skL l (skL l (skU l)) s3 = skN (skL l (skU l)) i s1 := by
        show skN (skL l (skU l)) (cS l s3.1 s3.2 1).1 (cS l s3.1 s3.2 1).2 = _
        rw [← HN.out.1, ← HN.out.2]
      obtain ⟨s4, hs4⟩ : ∃ s4 : Sg2, s4 = skN (skL l (skU l)) i s1 := ⟨_, rfl⟩
      have HB4 : Hid (s3.2 = 0 → s4.2 = 0 → Num.uv ss.length ++ ss.flatMap r_set = rd l s3.1 s4.1) := by
        intro h0 h2
        rw [hs4] at h2 ⊢
        have ht0 : s1.2 = 0 := Classical.byContradiction fun hn0 => by
          rw [skN_stay (fwd_l (fwd_u l)).stay _ _ hn0] at h2
          exact hn0 h2
        have hcb := c_bytes l s3 h0 (by show (cS l s3.1 s3.2 1).2.2 = 0; rw [← HN.out.2]; exact ht0)
        have hle0 := (fwd_c l).le s3 HP3.out.le
        have hlej := (fwd_n (fwd_l (fwd_u l)) i).le s1 HP1.out.le
        have e1 : (skC l s3).1 = s1.1 := by show (cS l s3.1 s3.2 1).2.1 = _; rw [← HN.out.2]
        have e4 : Num.uv ss.length = rd l s3.1 s1.1 := by
          have := hcb.1
          rw [e1] at this
          rw [HXL.out, HN.out.1]
          exact this
        rw [e1] at hle0
        rw [rd_app l hle0.1 hlej.1, ← e4, ← HBB.out ht0 h2]
      have HS4 : Hid (s4 = skL l (skL l (skU l)) s3) := hs4.trans es4.symm
      have ps4 : RP B K v l wo s4.1 s4.2 := by rw [hs4]; exact HP.out
      have hle4 := ps4.le
      have kU := kcount B K v l wo s4.1 s4.2 hlb ps4
      obtain ⟨n2, hn2⟩ : ∃ n, n = (cS l s4.1 s4.2 1).1 := ⟨_, rfl⟩
      obtain ⟨u1, hu1⟩ : ∃ s : Sg2, s = (cS l s4.1 s4.2 1).2 := ⟨_, rfl⟩
      have hnl2 : n2 ≤ 1048576 := by rw [hn2]; exact Nat.le_trans (c_le l s4.1 s4.2 hle4) hlb
      have e1' : (cS l s4.1 s4.2 1).2.1 = u1.1 := by rw [hu1]
      have e2' : (cS l s4.1 s4.2 1).2.2 = u1.2 := by rw [hu1]
      rw [← hn2, e1', e2'] at kU
      have HU : Hid (n2 = (cS l s4.1 s4.2 1).1 ∧ u1 = (cS l s4.1 s4.2 1).2) := ⟨hn2, hu1⟩
      have HSS : Hid (wo.ownsRow Z3 123 1 (.slice sa sn sc) ss.length (ss.flatMap cl_set)) := by rw [HXL.out]; exact HSW.out
      have HPw : Hid (RP B K v l wo s4.1 s4.2) := ps4
      clear es4 hs4 hn2 hu1 e1' e2' ps4
      go_wp2_with fail
      refine kU.mono ?_
      rintro er w5 ⟨rfl, hP5, g5⟩
      have HPu : Hid (RP B K v l w5 u1.1 u1.2) := hP5
      have HX5 : Hid (BxA w5 (w.heap.size + 1) 36 #[.int .i64 F, .int .i64 T, .int .i64 t.k, .int .i64 t.d, .slice a1 n1 m1, .int .i64 t.lo, .int .i64 t.hi, .slice a2 o2 m2, .int .i64 g, .slice sa sn sc, .slice none 0 0, .int .i64 0, .int .i64 0] ∧ BxA w5 w.heap.size 36 #[.int .i64 0, .int .i64 0, .int .i64 0, .int .i64 0, .slice none 0 0, .int .i64 0, .int .i64 0, .slice none 0 0, .int .i64 0, .slice none 0 0, .slice none 0 0, .int .i64 0, .int .i64 0]) := ⟨BxA.grow HBX.out.1 g5 (by omega), BxA.grow HBX.out.2 g5 (by omega)⟩
      have HSS5 : Hid (w5.ownsRow Z3 123 1 (.slice sa sn sc) ss.length (ss.flatMap cl_set)) := (HPw.out.ktt g5).own HSS.out (by decide)
      have HSO5 : Hid (∀ x ∈ ss, SetIn Z3 w5 x) := fun x hx => (HOK.out x hx).keep (HPw.out.ktt g5) (by decide)
      have HW5 : Hid (Z3 ≤ w5.heap.size ∧ Wne (w.heap.size + 1 + 1) Z3 w5 (fun w => t.Ok w)) := ⟨Nat.le_trans HWT.out.1 g5.size, HWT.out.2.up fun i' h2 h3 => g5.block i' (by have := HWT.out.1; omega) (fun e => by simp only [Option.some.injEq] at e; omega)⟩
      have HG5 : Hid (w.grownBy w5 (some K)) := grown_trans' HG.out g5
      clear hP5 g5 kU
      go_wp2_with fail
      go_loopg [9] n2 (fun kz v9 wr => ∃ (k : Nat) (ag : List (Int × Int)) (va : Option Addr) (vn vc : Nat), v9 = .int .i64 (k : Int) ∧ k ≤ n2 ∧ n2 - k ≤ kz ∧ Hid (ag.length = k) ∧ Hid (BxA wr (w.heap.size + 1) 36 #[.int .i64 F, .int .i64 T, .int .i64 t.k, .int .i64 t.d, .slice a1 n1 m1, .int .i64 t.lo, .int .i64 t.hi, .slice a2 o2 m2, .int .i64 g, .slice sa sn sc, .slice va vn vc, .int .i64 0, .int .i64 0] ∧ BxA wr w.heap.size 36 #[.int .i64 0, .int .i64 0, .int .i64 0, .int .i64 0, .slice none 0 0, .int .i64 0, .int .i64 0, .slice none 0 0, .int .i64 0, .slice none 0 0, .slice none 0 0, .int .i64 0, .int .i64 0]) ∧ Hid (wr.ownsRow Z3 128 2 (.slice va vn vc) k (ag.flatMap cl_agg)) ∧ Hid (∀ x ∈ ag, In64 x.1 ∧ In64 x.2) ∧ Hid (wr.ownsRow Z3 123 1 (.slice sa sn sc) ss.length (ss.flatMap cl_set)) ∧ Hid (∀ x ∈ ss, SetIn Z3 wr x) ∧ Hid (Z3 ≤ wr.heap.size ∧ Wne (w.heap.size + 1 + 1) Z3 wr (fun w => t.Ok w)) ∧ Hid (RP B K v l wr (skN (skAgg l) k u1).1 (skN (skAgg l) k u1).2) ∧ Hid (w.grownBy wr (some K)) ∧ Hid (u1.2 = 0 → (skN (skAgg l) k u1).2 = 0 → ag.flatMap r_agg = rd l u1.1 (skN (skAgg l) k u1).1))
      case atStart => exact ⟨0, [], none, 0, 0, rfl, by omega, Nat.le_refl _, rfl, HX5, ⟨rfl, .inl ⟨rfl, rfl⟩⟩, (fun _ h => by cases h), HSS5, HSO5, HW5, HPu, HG5, fun _ _ => by show _ = rd l u1.1 u1.1; simp [rd]⟩
      case round =>
        obtain ⟨k, ag, va, vn, vc, rfl, hk, hkz, HAL, HBA, HAW, HAO, HSA, HSO, HWA, HPa, HGa, HAB⟩ := hrel
        obtain ⟨E3, hE3⟩ : ∃ E, E = (skN (skAgg l) k u1).2 := ⟨_, rfl⟩
        have HE3 : Hid (E3 = (skN (skAgg l) k u1).2) := hE3
        have hks := HPa.out.ks
        rw [← hE3] at hks
        obtain ⟨c0, c1, c2, cf⟩ := hks.cells
        clear hks hE3 cf c0 c1
        by_cases hlk : k < n2
        · have hlkz : (k : Int) < (n2 : Int) := by omega
          by_cases he3 : E3 = 0
          · subst he3
            obtain ⟨qa, hqa⟩ : ∃ q, q = (skN (skAgg l) k u1).1 := ⟨_, rfl⟩
            have HQA : Hid ((qa, 0) = skN (skAgg l) k u1) := Prod.ext hqa HE3.out
            have hlea : ((qa, 0) : Sg2).1 ≤ l.length := by rw [hqa]; exact HPa.out.le
            have ra : RP B K v l wr qa 0 := by have := HPa.out; rw [← hqa, ← HE3.out] at this; exact this
            have ka := kwhole B K v l wr qa 0 ra
            clear ra hqa
            go_wp2_with fail
            refine ka.mono ?_
            rintro er x1 ⟨xk, rfl, ik, Ga⟩
            have kb := kwhole B K v l x1 _ _ Ga.ps
            have HGa1 : Hid _ := And.intro ik Ga
            clear ka ik Ga
            go_wp2_with fail
            refine kb.mono ?_
            rintro er x2 ⟨xc, rfl, ic, Gb⟩
            obtain ⟨ik, Ga⟩ := HGa1.out
            have GP := GK.comp hlea (fwd_u l) (fwd_u l) ⟨Ga.ps, Ga.g, Ga.b⟩ Gb
            have xq := BxA.grow HBA.out.1 GP.g (by omega)
            have c10 : x2.cell? ⟨w.heap.size + 1, 10, none⟩ = some (.slice va vn vc) := BxA.cell xq 10 _ rfl
            have HXq : Hid _ := xq
            have HAWp : Hid (x2.ownsRow Z3 128 2 (.slice va vn vc) k (ag.flatMap cl_agg)) := (HPa.out.ktt GP.g).own HAW.out (by decide)
            have hszp : Z3 ≤ x2.heap.size := Nat.le_trans HWA.out.1 GP.g.size
            have HGP : Hid _ := And.intro ik (And.intro ic GP)
            clear kb ik Ga ic Gb GP xq
            go_wp2_with (first | (at_builtin; refine wpList_appK rfl _ _ 34 rfl Z3 128 l0 (.agg #[.int .i64 0, .int .i64 0]) 2 16 Try.underlying34 hl0 lz0 lz1 lz2 rfl (by decide) (.slice va vn vc) k (ag.flatMap cl_agg) rfl (World.ownsRow.alloc HAWp.out (.cells #[.int .i64 xk, .int .i64 xc] 128)) (.slice (some ⟨x2.heap.size, 0, none⟩) 1 1) 1 [.int .i64 xk, .int .i64 xc] rfl (lit_rds' x2 [.int .i64 xk, .int .i64 xc] 128 _ rfl) (fun u hu => by simp at hu; rcases hu with rfl | rfl <;> rfl) (by unfold maxLen; omega) (by omega) (Nat.le_trans hszp (by simp)) ?_; intro v3 w3 o3 g3; obtain ⟨xa, xn, xd, rfl⟩ := own_sl o3; have x3 : BxA w3 (w.heap.size + 1) 36 #[.int .i64 F, .int .i64 T, .int .i64 t.k, .int .i64 t.d, .slice a1 n1 m1, .int .i64 t.lo, .int .i64 t.hi, .slice a2 o2 m2, .int .i64 g, .slice sa sn sc, .slice va vn vc, .int .i64 0, .int .i64 0] := (by have hb := HXq.out; unfold BxA at hb ⊢; rw [g3.block _ (by have := BxA.lt HXq.out; simp; omega) (fun e => by have := (World.ownsRow.lt (World.ownsRow.alloc HAWp.out (.cells #[.int .i64 xk, .int .i64 xc] 128)) _ e.symm).1; omega), Below.heap_alloc _ _ _ (BxA.lt HXq.out)]; exact hb); have z3 : w3.cell? ⟨w.heap.size + 1, 10, none⟩ = some (.slice va vn vc) := BxA.cell x3 10 _ rfl; have f3 : w3.frozen? ⟨w.heap.size + 1, 10, none⟩ = false := BxA.free x3 10; have H3 : Hid _ := And.intro o3 (And.intro g3 x3); clear o3 g3 x3))
            go_roundg (n2 - (k + 1))
            case measure => omega
            case rel =>
              obtain ⟨o3, g3, x3⟩ := H3.out
              obtain ⟨ik, ic, GP⟩ := HGP.out
              have gA : x2.grownBy w3 (Value.ownBlock (.slice va vn vc)) := grown_trans' (grown_alloc _ _ _) g3
              have hrl : ∀ g, Value.ownBlock (.slice va vn vc) = some g → Z3 ≤ g ∧ g < wr.heap.size := fun g hg => World.ownsRow.lt HAW.out g hg
              have hK2 : K < x2.heap.size := GP.ps.lt
              have bA : Below (K + 1) x2 w3 := ⟨gA.os, gA.tape, gA.output, gA.size, fun j hj => gA.block j (by omega) (fun e => by have := hrl j e.symm; omega)⟩
              have KA : KTT [128, 36] x2 (w3.setCell ⟨w.heap.size + 1, 10, none⟩ (.slice xa xn xd)) := ((own_grow (T := [128, 36]) HAWp.out gA (by simp))).trans ((BxA.ktt x3 grown_setCell).mono fun t ht => by simp at ht; simp [ht])
              have HS2 : skAgg l (qa, 0) = skN (skAgg l) (k + 1) u1 := by rw [skN_succ, ← HQA.out]
              refine ⟨k + 1, ag ++ [(xk, xc)], xa, xn, xd, by go_num, by omega, Nat.le_refl _, by apply hide; simp [HAL.out], ⟨BxA.set x3 10 _, ?_⟩, ?_, ?_, ?_, ?_, ?_, ?_, ?_, ?_⟩
              · have h2 := BxA.grow HBA.out.2 GP.g (by omega)
                refine BxA.other ?_ (by omega)
                unfold BxA at h2 ⊢
                rw [gA.block _ (Array.getElem?_eq_some_iff.1 h2).1 (fun e => by have := hrl _ e.symm; omega)]
                exact h2
              · apply hide
                have := (Win.grow (own_win o3) (grown_setCell (w := w3) (R := w.heap.size + 1) (j := 10) (u := .slice xa xn xd)) (by omega)).now
                simpa [cl_agg] using this
              · intro y hy
                rcases List.mem_append.1 hy with hy | hy
                · exact HAO.out y hy
                · simp at hy
                  subst hy
                  exact ⟨ik, ic⟩
              · exact KA.own ((HPa.out.ktt GP.g).own HSA.out (by decide)) (by decide)
              · exact fun x hx => ((HSO.out x hx).keep (HPa.out.ktt GP.g) (by decide)).keep KA (by decide)
              · refine ⟨Nat.le_trans hszp (Nat.le_trans gA.size (by simp)), HWA.out.2.up fun i' h2 h3 => ?_⟩
                rw [Below.heap_setCell _ _ _ _ (by simp; omega), gA.block i' (by omega) (fun e => by have := hrl _ e.symm; omega)]
                exact GP.g.block i' (by have := HWA.out.1; omega) (fun e => by simp only [Option.some.injEq] at e; omega)
              · apply hide
                rw [← HS2]
                exact (GP.ps.keep bA).keep (grown_above grown_setCell (by omega) (BxA.lt x3))
              · exact fill_grown (grown_new (grown_trans' (grown_trans' HGa.out GP.g) (grown_alloc _ _ _)) (own_mono (World.ownsRow.alloc HAWp.out (.cells #[.int .i64 xk, .int .i64 xc] 128)) (by omega)) g3) grown_setCell (by omega)
              · intro h0 h2
                have hle1 := (fwd_n (fwd_agg l) k).le u1 HPu.out.le
                have hq0 : (skN (skAgg l) k u1).2 = 0 := by rw [← HQA.out]
                have hq1 : (skN (skAgg l) k u1).1 = qa := by rw [← HQA.out]
                rw [List.flatMap_append, HAB.out h0 hq0]
                rw [← HS2] at h2 ⊢
                simp only [List.flatMap_cons, List.flatMap_nil, List.append_nil]
                have hb := GP.b rfl h2
                rw [hq1] at hle1 ⊢
                exact (congrArg (rd l u1.1 qa ++ ·) hb).trans (rd_app l hle1.1 ((fwd_agg l).le (qa, 0) hle1.2).1).symm
          · have hE3b : ((E3 : Int) == 0) = false := by simpa using he3
            have es5 : skL l (skAgg l) s4 = skN (skAgg l) k u1 := by
              show skN (skAgg l) (cS l s4.1 s4.2 1).1 (cS l s4.1 s4.2 1).2 = _
              rw [← HU.out.1, ← HU.out.2, show n2 = k + (n2 - k) by omega, skN_add]
              exact skN_stay (fwd_agg l).stay _ _ (by rw [← HE3.out]; exact he3)
            obtain ⟨s5, hs5⟩ : ∃ s5 : Sg2, s5 = skN (skAgg l) k u1 := ⟨_, rfl⟩
            have HB5 : Hid (s4.2 = 0 → s5.2 = 0 → Num.uv ag.length ++ ag.flatMap r_agg = rd l s4.1 s5.1) := by
              intro h0 h2
              rw [hs5] at h2 ⊢
              exact absurd h2 (by rw [← HE3.out]; exact he3)
            have HS5 : Hid (s5 = skL l (skAgg l) s4) := hs5.trans es5.symm
            have ps5 : RP B K v l wr s5.1 s5.2 := by rw [hs5]; exact HPa.out
            have hle5 := ps5.le
            have kG := kwhole B K v l wr s5.1 s5.2 ps5
            clear es5 hs5 ps5
            go_wp2_with fail
            refine kG.mono ?_
            rintro er w7 ⟨GR, rfl, iG, G7⟩
            have xq7 := BxA.grow HBA.out.1 G7.g (by omega)
            have z11 : w7.cell? ⟨w.heap.size + 1, 11, none⟩ = some (.int .i64 0) := BxA.cell xq7 11 _ rfl
            have f11 : w7.frozen? ⟨w.heap.size + 1, 11, none⟩ = false := BxA.free xq7 11
            obtain ⟨Y7, hY7⟩ : ∃ Y, Y = w7.setCell ⟨w.heap.size + 1, 11, none⟩ (.int .i64 GR) := ⟨_, rfl⟩
            have x7 : BxA Y7 (w.heap.size + 1) 36 #[.int .i64 F, .int .i64 T, .int .i64 t.k, .int .i64 t.d, .slice a1 n1 m1, .int .i64 t.lo, .int .i64 t.hi, .slice a2 o2 m2, .int .i64 g, .slice sa sn sc, .slice va vn vc, .int .i64 GR, .int .i64 0] := by rw [hY7]; exact BxA.set xq7 11 _
            have o7 : BxA Y7 w.heap.size 36 #[.int .i64 0, .int .i64 0, .int .i64 0, .int .i64 0, .slice none 0 0, .int .i64 0, .int .i64 0, .slice none 0 0, .int .i64 0, .slice none 0 0, .slice none 0 0, .int .i64 0, .int .i64 0] := by rw [hY7]; exact BxA.other (BxA.grow HBA.out.2 G7.g (by omega)) (by omega)
            have p7 : RP B K v l Y7 (skU l s5).1 (skU l s5).2 := by rw [hY7]; exact G7.ps.keep (grown_above grown_setCell (by omega) (BxA.lt xq7))
            have g7 : w7.grownBy Y7 (some (w.heap.size + 1)) := by rw [hY7]; exact grown_setCell
            have kR := kwhole B K v l Y7 _ _ p7
            have HY7 : Hid (Y7 = _) := hY7
            have H7 : Hid _ := And.intro iG (And.intro G7 (And.intro x7 (And.intro o7 (And.intro g7 (BxA.lt xq7)))))
            clear kG hY7 x7 o7 p7 xq7 iG G7 g7
            go_wp2_with fail
            rw [← HY7.out]
            refine kR.mono ?_
            rintro er w8 ⟨RO, rfl, iR, G8⟩
            obtain ⟨iG, G7, x7, o7, g7, lt7⟩ := H7.out
            have xq8 := BxA.grow x7 G8.g (by omega)
            have z12 : w8.cell? ⟨w.heap.size + 1, 12, none⟩ = some (.int .i64 0) := BxA.cell xq8 12 _ rfl
            have f12 : w8.frozen? ⟨w.heap.size + 1, 12, none⟩ = false := BxA.free xq8 12
            obtain ⟨Y8, hY8⟩ : ∃ Y, Y = w8.setCell ⟨w.heap.size + 1, 12, none⟩ (.int .i64 RO) := ⟨_, rfl⟩
            have x8 : BxA Y8 (w.heap.size + 1) 36 #[.int .i64 F, .int .i64 T, .int .i64 t.k, .int .i64 t.d, .slice a1 n1 m1, .int .i64 t.lo, .int .i64 t.hi, .slice a2 o2 m2, .int .i64 g, .slice sa sn sc, .slice va vn vc, .int .i64 GR, .int .i64 RO] := by rw [hY8]; exact BxA.set xq8 12 _
            have o8 : BxA Y8 w.heap.size 36 #[.int .i64 0, .int .i64 0, .int .i64 0, .int .i64 0, .slice none 0 0, .int .i64 0, .int .i64 0, .slice none 0 0, .int .i64 0, .slice none 0 0, .slice none 0 0, .int .i64 0, .int .i64 0] := by rw [hY8]; exact BxA.other (BxA.grow o7 G8.g (by omega)) (by omega)
            have g8 : w8.grownBy Y8 (some (w.heap.size + 1)) := by rw [hY8]; exact grown_setCell
            have HY8 : Hid (Y8 = _) := hY8
            have H8 : Hid _ := And.intro iR (And.intro G8 (And.intro x8 (And.intro o8 (And.intro g8 (BxA.lt xq8)))))
            clear kR hY8 x8 o8 xq8 iR G8 g8 iG G7 x7 o7 g7 lt7
            go_upto_region 25 with fail
            rw [← HY8.out]
            clear z11 f11 z12 f12
            go_wp2_with (first | (refine wpList_load_row rfl 36 (.tmp 3) rfl (w.heap.size + 1) rfl 36 _ (0, 0) _ H8.out.2.2.1 Try.underlying36 rfl (by kernel_rfl) ?_) | (refine wpList_store_row rfl 36 (.tmp 2) (.tmp 92) rfl w.heap.size 36 #[.int .i64 0, .int .i64 0, .int .i64 0, .int .i64 0, .slice none 0 0, .int .i64 0, .int .i64 0, .slice none 0 0, .int .i64 0, .slice none 0 0, .slice none 0 0, .int .i64 0, .int .i64 0] #[.int .i64 F, .int .i64 T, .int .i64 t.k, .int .i64 t.d, .slice a1 n1 m1, .int .i64 t.lo, .int .i64 t.hi, .slice a2 o2 m2, .int .i64 g, .slice sa sn sc, .slice va vn vc, .int .i64 GR, .int .i64 RO] H8.out.2.2.2.1 rfl rfl (by kernel_rfl) rfl (by first | rfl | simp [Value.oneCell']) ?_))
            obtain ⟨iG, G7, x7, o7, g7, lt7⟩ := H7.out
            obtain ⟨iR, G8, x8, o8, g8, lt8⟩ := H8.out
            refine bodyPost_ret (results_cell_row rfl _ _ w.heap.size 36 #[.int .i64 F, .int .i64 T, .int .i64 t.k, .int .i64 t.d, .slice a1 n1 m1, .int .i64 t.lo, .int .i64 t.hi, .slice a2 o2 m2, .int .i64 g, .slice sa sn sc, .slice va vn vc, .int .i64 GR, .int .i64 RO] (0, 0) _ rfl (setRow_heap _ _ _ _ _ _ o8) Try.underlying36 rfl (by kernel_rfl)) rfl ?_
            have gY := setRow_grown Y8 w.heap.size #[.int .i64 F, .int .i64 T, .int .i64 t.k, .int .i64 t.d, .slice a1 n1 m1, .int .i64 t.lo, .int .i64 t.hi, .slice a2 o2 m2, .int .i64 g, .slice sa sn sc, .slice va vn vc, .int .i64 GR, .int .i64 RO]
            have lo8 := BxA.lt o8
            have gall : wr.grownBy Y8 (some K) ∨ True := .inr trivial
            have hkeep : ∀ j, w.heap.size + 1 + 1 ≤ j → j < wr.heap.size → (Y8.setRow w.heap.size #[.int .i64 F, .int .i64 T, .int .i64 t.k, .int .i64 t.d, .slice a1 n1 m1, .int .i64 t.lo, .int .i64 t.hi, .slice a2 o2 m2, .int .i64 g, .slice sa sn sc, .slice va vn vc, .int .i64 GR, .int .i64 RO]).heap[j]? = wr.heap[j]? := fun j h1 h2 => by
              have s7 := G7.g.size
              have s7' := g7.size
              have s8 := G8.g.size
              have s8' := g8.size
              rw [gY.block j (by omega) (fun e => by simp only [Option.some.injEq] at e; omega), g8.block j (by omega) (fun e => by simp only [Option.some.injEq] at e; omega), G8.g.block j (by omega) (fun e => by simp only [Option.some.injEq] at e; omega), g7.block j (by omega) (fun e => by simp only [Option.some.injEq] at e; omega), G7.g.block j (by omega) (fun e => by simp only [Option.some.injEq] at e; omega)]
            have hsz : wr.heap.size ≤ (Y8.setRow w.heap.size #[.int .i64 F, .int .i64 T, .int .i64 t.k, .int .i64 t.d, .slice a1 n1 m1, .int .i64 t.lo, .int .i64 t.hi, .slice a2 o2 m2, .int .i64 g, .slice sa sn sc, .slice va vn vc, .int .i64 GR, .int .i64 RO]).heap.size := Nat.le_trans G7.g.size (Nat.le_trans g7.size (Nat.le_trans G8.g.size (Nat.le_trans g8.size gY.size)))
            have q3 := HQ3.out
            refine ⟨⟨F, T, t, g, .slice sa sn sc, ss, .slice va vn vc, ag, GR, RO⟩, by rw [q3.e1, q3.e2], ?_, ⟨⟨_, _, _, q3.e1⟩, ⟨_, _, _, q3.e2⟩, ⟨_, _, _, rfl⟩, ⟨_, _, _, rfl⟩⟩, ?_, ?_, ?_⟩
            · have w1 := Wne.win HWA.out.2 HWA.out.1
              have w2 := (Win.mono (((own_win HSA.out).both (own_win HAW.out)).both (Win.all fun x hx => (HSO.out x hx).win)) hNZ).both w1
              exact ((w2.up hsz hkeep).imp fun _ r => ⟨q3.iF, q3.iT, r.2, q3.it, q3.ig, Fi.RdsK.of_own r.1.1.1, fun x hx => ⟨Fi.RdsK.of_own (r.1.2 x hx).1, (r.1.2 x hx).2⟩, (show Fi.RdsK 2 _ (.slice va vn vc) ag.length (ag.flatMap cl_agg) from by rw [HAL.out]; exact Fi.RdsK.of_own r.1.1.2), HAO.out, iG, iR⟩).mono (by omega)
            · have hp := (G8.ps.keep (grown_above g8 (by omega) lt8)).keep (grown_above gY (by omega) lo8)
              have e1 : skU l (skU l (skL l (skAgg l) (skL l (skL l (skU l)) (skU l (skFil l kd (skSpan l (p, e))))))) = skU l (skU l s5) := by rw [HS5.out, HS4.out, HS3.out]
              show RP B K v l _ (skU l (skU l (skL l (skAgg l) (skL l (skL l (skU l)) (skU l (skFil l kd (skSpan l (p, e)))))))).1 (skU l (skU l (skL l (skAgg l) (skL l (skL l (skU l)) (skU l (skFil l kd (skSpan l (p, e)))))))).2
              rw [e1]
              exact hp
            · exact fill_grown (fill_grown (grown_trans' (fill_grown (grown_trans' HGa.out G7.g) g7 (by omega)) G8.g) g8 (by omega)) gY (Nat.le_refl _)
            · intro h0 h2
              have e1 : skU l (skU l (skL l (skAgg l) (skL l (skL l (skU l)) (skU l (skFil l kd (skSpan l (p, e))))))) = skU l (skU l s5) := by rw [HS5.out, HS4.out, HS3.out]
              have h2' : (skU l (skU l s5)).2 = 0 := by rw [← e1]; exact h2
              have n6 : (skU l s5).2 = 0 := Classical.byContradiction fun hn => hn (by have := (fwd_u l).stay _ hn; rw [this] at h2'; exact h2')
              have n5 : s5.2 = 0 := Classical.byContradiction fun hn => hn (by have := (fwd_u l).stay _ hn; rw [this] at n6; exact n6)
              have n4 : s4.2 = 0 := Classical.byContradiction fun hn => hn (by have := (fwd_l (fwd_agg l)).stay _ hn; rw [← HS5.out] at this; rw [this] at n5; exact n5)
              have n3 : s3.2 = 0 := Classical.byContradiction fun hn => hn (by have := (fwd_l (fwd_l (fwd_u l))).stay _ hn; rw [← HS4.out] at this; rw [this] at n4; exact n4)
              have a3 := q3.G.b h0 (by have := n3; rw [HS3.out] at this; exact this)
              have a3' : (r_span F T ++ r_fil t) ++ ei g = rd l p s3.1 := by rw [HS3.out]; exact a3
              have a4 := HB4.out n3 n4
              have a5 := HB5.out n4 n5
              have a6 := G7.b n5 n6
              have a7 := G8.b n6 h2'
              have l3 : p ≤ s3.1 := by rw [HS3.out]; exact ((((fwd_span l).comp (fwd_fil l kd)).comp (fwd_u l)).le (p, e) hple).1
              have l3' : s3.1 ≤ l.length := HP3.out.le
              have l4 := (fwd_l (fwd_l (fwd_u l))).le s3 l3'
              rw [← HS4.out] at l4
              have l5 := (fwd_l (fwd_agg l)).le s4 l4.2
              rw [← HS5.out] at l5
              have l6 := (fwd_u l).le s5 l5.2
              have l7 := (fwd_u l).le (skU l s5) l6.2
              show r_query _ = rd l p (skU l (skU l (skL l (skAgg l) (skL l (skL l (skU l)) (skU l (skFil l kd (skSpan l (p, e)))))))).1
              rw [e1, rd_app l l3 (Nat.le_trans l4.1 (Nat.le_trans l5.1 (Nat.le_trans l6.1 l7.1))), ← a3', rd_app l l4.1 (Nat.le_trans l5.1 (Nat.le_trans l6.1 l7.1)), ← a4, rd_app l l5.1 (Nat.le_trans l6.1 l7.1), ← a5, rd_app l l6.1 l7.1, ← a6, ← a7]
              simp only [r_query, List.append_assoc]

        · have hlkz : ¬ (k : Int) < (n2 : Int) := by omega
          obtain rfl : k = n2 := by omega
          have es5 : skL l (skAgg l) s4 = skN (skAgg l) k u1 := by
            show skN (skAgg l) (cS l s4.1 s4.2 1).1 (cS l s4.1 s4.2 1).2 = _
            rw [← HU.out.1, ← HU.out.2]
          obtain ⟨s5, hs5⟩ : ∃ s5 : Sg2, s5 = skN (skAgg l) k u1 := ⟨_, rfl⟩
          have HB5 : Hid (s4.2 = 0 → s5.2 = 0 → Num.uv ag.length ++ ag.flatMap r_agg = rd l s4.1 s5.1) := by
            intro h0 h2
            rw [hs5] at h2 ⊢
            have ht0 : u1.2 = 0 := Classical.byContradiction fun hn0 => by
              rw [skN_stay (fwd_agg l).stay _ _ hn0] at h2
              exact hn0 h2
            have hcb := c_bytes l s4 h0 (by show (cS l s4.1 s4.2 1).2.2 = 0; rw [← HU.out.2]; exact ht0)
            have hle0 := (fwd_c l).le s4 hle4
            have hlej := (fwd_n (fwd_agg l) k).le u1 HPu.out.le
            have e1 : (skC l s4).1 = u1.1 := by show (cS l s4.1 s4.2 1).2.1 = _; rw [← HU.out.2]
            have e4 : Num.uv ag.length = rd l s4.1 u1.1 := by
              have := hcb.1
              rw [e1] at this
              rw [HAL.out, HU.out.1]
              exact this
            rw [e1] at hle0
            rw [rd_app l hle0.1 hlej.1, ← e4, ← HAB.out ht0 h2]
          have HS5 : Hid (s5 = skL l (skAgg l) s4) := hs5.trans es5.symm
          have ps5 : RP B K v l wr s5.1 s5.2 := by rw [hs5]; exact HPa.out
          have hle5 := ps5.le
          have kG := kwhole B K v l wr s5.1 s5.2 ps5
          clear es5 hs5 ps5
          go_wp2_with fail
          refine kG.mono ?_
          rintro er w7 ⟨GR, rfl, iG, G7⟩
          have xq7 := BxA.grow HBA.out.1 G7.g (by omega)
          have z11 : w7.cell? ⟨w.heap.size + 1, 11, none⟩ = some (.int .i64 0) := BxA.cell xq7 11 _ rfl
          have f11 : w7.frozen? ⟨w.heap.size + 1, 11, none⟩ = false := BxA.free xq7 11
          obtain ⟨Y7, hY7⟩ : ∃ Y, Y = w7.setCell ⟨w.heap.size + 1, 11, none⟩ (.int .i64 GR) := ⟨_, rfl⟩
          have x7 : BxA Y7 (w.heap.size + 1) 36 #[.int .i64 F, .int .i64 T, .int .i64 t.k, .int .i64 t.d, .slice a1 n1 m1, .int .i64 t.lo, .int .i64 t.hi, .slice a2 o2 m2, .int .i64 g, .slice sa sn sc, .slice va vn vc, .int .i64 GR, .int .i64 0] := by rw [hY7]; exact BxA.set xq7 11 _
          have o7 : BxA Y7 w.heap.size 36 #[.int .i64 0, .int .i64 0, .int .i64 0, .int .i64 0, .slice none 0 0, .int .i64 0, .int .i64 0, .slice none 0 0, .int .i64 0, .slice none 0 0, .slice none 0 0, .int .i64 0, .int .i64 0] := by rw [hY7]; exact BxA.other (BxA.grow HBA.out.2 G7.g (by omega)) (by omega)
          have p7 : RP B K v l Y7 (skU l s5).1 (skU l s5).2 := by rw [hY7]; exact G7.ps.keep (grown_above grown_setCell (by omega) (BxA.lt xq7))
          have g7 : w7.grownBy Y7 (some (w.heap.size + 1)) := by rw [hY7]; exact grown_setCell
          have kR := kwhole B K v l Y7 _ _ p7
          have HY7 : Hid (Y7 = _) := hY7
          have H7 : Hid _ := And.intro iG (And.intro G7 (And.intro x7 (And.intro o7 (And.intro g7 (BxA.lt xq7)))))
          clear kG hY7 x7 o7 p7 xq7 iG G7 g7
          go_wp2_with fail
          rw [← HY7.out]
          refine kR.mono ?_
          rintro er w8 ⟨RO, rfl, iR, G8⟩
          obtain ⟨iG, G7, x7, o7, g7, lt7⟩ := H7.out
          have xq8 := BxA.grow x7 G8.g (by omega)
          have z12 : w8.cell? ⟨w.heap.size + 1, 12, none⟩ = some (.int .i64 0) := BxA.cell xq8 12 _ rfl
          have f12 : w8.frozen? ⟨w.heap.size + 1, 12, none⟩ = false := BxA.free xq8 12
          obtain ⟨Y8, hY8⟩ : ∃ Y, Y = w8.setCell ⟨w.heap.size + 1, 12, none⟩ (.int .i64 RO) := ⟨_, rfl⟩
          have x8 : BxA Y8 (w.heap.size + 1) 36 #[.int .i64 F, .int .i64 T, .int .i64 t.k, .int .i64 t.d, .slice a1 n1 m1, .int .i64 t.lo, .int .i64 t.hi, .slice a2 o2 m2, .int .i64 g, .slice sa sn sc, .slice va vn vc, .int .i64 GR, .int .i64 RO] := by rw [hY8]; exact BxA.set xq8 12 _
          have o8 : BxA Y8 w.heap.size 36 #[.int .i64 0, .int .i64 0, .int .i64 0, .int .i64 0, .slice none 0 0, .int .i64 0, .int .i64 0, .slice none 0 0, .int .i64 0, .slice none 0 0, .slice none 0 0, .int .i64 0, .int .i64 0] := by rw [hY8]; exact BxA.other (BxA.grow o7 G8.g (by omega)) (by omega)
          have g8 : w8.grownBy Y8 (some (w.heap.size + 1)) := by rw [hY8]; exact grown_setCell
          have HY8 : Hid (Y8 = _) := hY8
          have H8 : Hid _ := And.intro iR (And.intro G8 (And.intro x8 (And.intro o8 (And.intro g8 (BxA.lt xq8)))))
          clear kR hY8 x8 o8 xq8 iR G8 g8 iG G7 x7 o7 g7 lt7
          go_upto_region 25 with fail
          rw [← HY8.out]
          clear z11 f11 z12 f12
          go_wp2_with (first | (refine wpList_load_row rfl 36 (.tmp 3) rfl (w.heap.size + 1) rfl 36 _ (0, 0) _ H8.out.2.2.1 Try.underlying36 rfl (by kernel_rfl) ?_) | (refine wpList_store_row rfl 36 (.tmp 2) (.tmp 92) rfl w.heap.size 36 #[.int .i64 0, .int .i64 0, .int .i64 0, .int .i64 0, .slice none 0 0, .int .i64 0, .int .i64 0, .slice none 0 0, .int .i64 0, .slice none 0 0, .slice none 0 0, .int .i64 0, .int .i64 0] #[.int .i64 F, .int .i64 T, .int .i64 t.k, .int .i64 t.d, .slice a1 n1 m1, .int .i64 t.lo, .int .i64 t.hi, .slice a2 o2 m2, .int .i64 g, .slice sa sn sc, .slice va vn vc, .int .i64 GR, .int .i64 RO] H8.out.2.2.2.1 rfl rfl (by kernel_rfl) rfl (by first | rfl | simp [Value.oneCell']) ?_))
          obtain ⟨iG, G7, x7, o7, g7, lt7⟩ := H7.out
          obtain ⟨iR, G8, x8, o8, g8, lt8⟩ := H8.out
          refine bodyPost_ret (results_cell_row rfl _ _ w.heap.size 36 #[.int .i64 F, .int .i64 T, .int .i64 t.k, .int .i64 t.d, .slice a1 n1 m1, .int .i64 t.lo, .int .i64 t.hi, .slice a2 o2 m2, .int .i64 g, .slice sa sn sc, .slice va vn vc, .int .i64 GR, .int .i64 RO] (0, 0) _ rfl (setRow_heap _ _ _ _ _ _ o8) Try.underlying36 rfl (by kernel_rfl)) rfl ?_
          have gY := setRow_grown Y8 w.heap.size #[.int .i64 F, .int .i64 T, .int .i64 t.k, .int .i64 t.d, .slice a1 n1 m1, .int .i64 t.lo, .int .i64 t.hi, .slice a2 o2 m2, .int .i64 g, .slice sa sn sc, .slice va vn vc, .int .i64 GR, .int .i64 RO]
          have lo8 := BxA.lt o8
          have gall : wr.grownBy Y8 (some K) ∨ True := .inr trivial
          have hkeep : ∀ j, w.heap.size + 1 + 1 ≤ j → j < wr.heap.size → (Y8.setRow w.heap.size #[.int .i64 F, .int .i64 T, .int .i64 t.k, .int .i64 t.d, .slice a1 n1 m1, .int .i64 t.lo, .int .i64 t.hi, .slice a2 o2 m2, .int .i64 g, .slice sa sn sc, .slice va vn vc, .int .i64 GR, .int .i64 RO]).heap[j]? = wr.heap[j]? := fun j h1 h2 => by
            have s7 := G7.g.size
            have s7' := g7.size
            have s8 := G8.g.size
            have s8' := g8.size
            rw [gY.block j (by omega) (fun e => by simp only [Option.some.injEq] at e; omega), g8.block j (by omega) (fun e => by simp only [Option.some.injEq] at e; omega), G8.g.block j (by omega) (fun e => by simp only [Option.some.injEq] at e; omega), g7.block j (by omega) (fun e => by simp only [Option.some.injEq] at e; omega), G7.g.block j (by omega) (fun e => by simp only [Option.some.injEq] at e; omega)]
          have hsz : wr.heap.size ≤ (Y8.setRow w.heap.size #[.int .i64 F, .int .i64 T, .int .i64 t.k, .int .i64 t.d, .slice a1 n1 m1, .int .i64 t.lo, .int .i64 t.hi, .slice a2 o2 m2, .int .i64 g, .slice sa sn sc, .slice va vn vc, .int .i64 GR, .int .i64 RO]).heap.size := Nat.le_trans G7.g.size (Nat.le_trans g7.size (Nat.le_trans G8.g.size (Nat.le_trans g8.size gY.size)))
          have q3 := HQ3.out
          refine ⟨⟨F, T, t, g, .slice sa sn sc, ss, .slice va vn vc, ag, GR, RO⟩, by rw [q3.e1, q3.e2], ?_, ⟨⟨_, _, _, q3.e1⟩, ⟨_, _, _, q3.e2⟩, ⟨_, _, _, rfl⟩, ⟨_, _, _, rfl⟩⟩, ?_, ?_, ?_⟩
          · have w1 := Wne.win HWA.out.2 HWA.out.1
            have w2 := (Win.mono (((own_win HSA.out).both (own_win HAW.out)).both (Win.all fun x hx => (HSO.out x hx).win)) hNZ).both w1
            exact ((w2.up hsz hkeep).imp fun _ r => ⟨q3.iF, q3.iT, r.2, q3.it, q3.ig, Fi.RdsK.of_own r.1.1.1, fun x hx => ⟨Fi.RdsK.of_own (r.1.2 x hx).1, (r.1.2 x hx).2⟩, (show Fi.RdsK 2 _ (.slice va vn vc) ag.length (ag.flatMap cl_agg) from by rw [HAL.out]; exact Fi.RdsK.of_own r.1.1.2), HAO.out, iG, iR⟩).mono (by omega)
          · have hp := (G8.ps.keep (grown_above g8 (by omega) lt8)).keep (grown_above gY (by omega) lo8)
            have e1 : skU l (skU l (skL l (skAgg l) (skL l (skL l (skU l)) (skU l (skFil l kd (skSpan l (p, e))))))) = skU l (skU l s5) := by rw [HS5.out, HS4.out, HS3.out]
            show RP B K v l _ (skU l (skU l (skL l (skAgg l) (skL l (skL l (skU l)) (skU l (skFil l kd (skSpan l (p, e)))))))).1 (skU l (skU l (skL l (skAgg l) (skL l (skL l (skU l)) (skU l (skFil l kd (skSpan l (p, e)))))))).2
            rw [e1]
            exact hp
          · exact fill_grown (fill_grown (grown_trans' (fill_grown (grown_trans' HGa.out G7.g) g7 (by omega)) G8.g) g8 (by omega)) gY (Nat.le_refl _)
          · intro h0 h2
            have e1 : skU l (skU l (skL l (skAgg l) (skL l (skL l (skU l)) (skU l (skFil l kd (skSpan l (p, e))))))) = skU l (skU l s5) := by rw [HS5.out, HS4.out, HS3.out]
            have h2' : (skU l (skU l s5)).2 = 0 := by rw [← e1]; exact h2
            have n6 : (skU l s5).2 = 0 := Classical.byContradiction fun hn => hn (by have := (fwd_u l).stay _ hn; rw [this] at h2'; exact h2')
            have n5 : s5.2 = 0 := Classical.byContradiction fun hn => hn (by have := (fwd_u l).stay _ hn; rw [this] at n6; exact n6)
            have n4 : s4.2 = 0 := Classical.byContradiction fun hn => hn (by have := (fwd_l (fwd_agg l)).stay _ hn; rw [← HS5.out] at this; rw [this] at n5; exact n5)
            have n3 : s3.2 = 0 := Classical.byContradiction fun hn => hn (by have := (fwd_l (fwd_l (fwd_u l))).stay _ hn; rw [← HS4.out] at this; rw [this] at n4; exact n4)
            have a3 := q3.G.b h0 (by have := n3; rw [HS3.out] at this; exact this)
            have a3' : (r_span F T ++ r_fil t) ++ ei g = rd l p s3.1 := by rw [HS3.out]; exact a3
            have a4 := HB4.out n3 n4
            have a5 := HB5.out n4 n5
            have a6 := G7.b n5 n6
            have a7 := G8.b n6 h2'
            have l3 : p ≤ s3.1 := by rw [HS3.out]; exact ((((fwd_span l).comp (fwd_fil l kd)).comp (fwd_u l)).le (p, e) hple).1
            have l3' : s3.1 ≤ l.length := HP3.out.le
            have l4 := (fwd_l (fwd_l (fwd_u l))).le s3 l3'
            rw [← HS4.out] at l4
            have l5 := (fwd_l (fwd_agg l)).le s4 l4.2
            rw [← HS5.out] at l5
            have l6 := (fwd_u l).le s5 l5.2
            have l7 := (fwd_u l).le (skU l s5) l6.2
            show r_query _ = rd l p (skU l (skU l (skL l (skAgg l) (skL l (skL l (skU l)) (skU l (skFil l kd (skSpan l (p, e)))))))).1
            rw [e1, rd_app l l3 (Nat.le_trans l4.1 (Nat.le_trans l5.1 (Nat.le_trans l6.1 l7.1))), ← a3', rd_app l l4.1 (Nat.le_trans l5.1 (Nat.le_trans l6.1 l7.1)), ← a4, rd_app l l5.1 (Nat.le_trans l6.1 l7.1), ← a5, rd_app l l6.1 l7.1, ← a6, ← a7]
            simp only [r_query, List.append_assoc]
theorem kquery (B K : Nat) (v : Value) (l : Bs) (w : World) (p e : Nat) (hlb : l.length ≤ 1048576) (h : RP B K v l w p e) :
    Calls Try.prog 63 #[.pointer (some ⟨K, 0, none⟩)] w fun ev w' => ∃ q : Qw, ev = .returned (.agg #[.int .i64 q.F, .int .i64 q.T, .int .i64 q.t.k, .int .i64 q.t.d, q.t.tv, .int .i64 q.t.lo, .int .i64 q.t.hi, q.t.kv, .int .i64 q.g, q.sv, q.av, .int .i64 q.G, .int .i64 q.R]) ∧ Win w.heap.size w' (fun w => q.Ok w) ∧ ((∃ a n c, q.t.tv = .slice a n c) ∧ (∃ a n c, q.t.kv = .slice a n c) ∧ (∃ a n c, q.sv = .slice a n c) ∧ (∃ a n c, q.av = .slice a n c)) ∧ GK B K v l w w' (p, e) (skQuery l) (r_query q) := by
  have kk := kquery' 20 B K v l w p e hlb h (kfil B K v l hlb 20 1 (by omega))
  unfold skQuery
  exact kk
end Go.Proofs.Ytpdlioidiobbbaa
