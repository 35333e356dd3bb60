/- The program's reader of queries. -/
import Derived.Test.YtpdlioidiobbbaaRg7
namespace Go.Proofs.Ytpdlioidiobbbaa
open Go.RowKit Go.Sort

def SetIn (N : Nat) (w : World) (x : Value × List Int) : Prop := w.ownsRow N 3 1 x.1 x.2.length (x.2.flatMap cl_int) ∧ ∀ k ∈ x.2, In64 k
theorem SetIn.keep {N : Nat} {T : List TypeId} {w w' : World} {x : Value × List Int} (h : SetIn N w x) (k : KTT T w w') (ht : 3 ∉ T) : SetIn N w' x := ⟨k.own h.1 ht, h.2⟩
theorem SetIn.mono {M N : Nat} {w : World} {x : Value × List Int} (h : SetIn N w x) (hm : M ≤ N) : SetIn M w x := ⟨own_mono h.1 hm, h.2⟩
theorem SetIn.win {N : Nat} {w : World} {x : Value × List Int} (h : SetIn N w x) : Win N w fun w => SetIn N w x := (own_win h.1).imp fun _ r => ⟨r, h.2⟩
set_option maxHeartbeats 1600000 in
theorem gset (B R : Nat) (l : Bs) (w : World) (bx p e : Nat) (hlb : l.length ≤ 1048576) (hb : BxA w bx 88 #[.pointer (some ⟨R, 0, none⟩)]) (h : PS B w R l p e) :
    Calls Try.prog 101 #[.pointer (some ⟨bx, 0, none⟩)] w fun ev w' => ∃ x : Value × List Int, ev = .returned x.1 ∧ SetIn w.heap.size w' x ∧ Got B R l w w' (p, e) (skL l (skU l)) (r_set x) := by
  have c0 : w.cell? ⟨bx, 0, none⟩ = some (.pointer (some ⟨R, 0, none⟩)) := BxA.cell hb 0 _ rfl
  have kk := gints B R l w p e hlb h
  clear hb h
  go_enter Try.func101, Try.ntmps101
  go_wp2_with fail
  refine kk.mono ?_
  rintro ev w1 ⟨v, xs, rfl, ow, iz, G⟩
  have HG : Hid _ := And.intro ow (And.intro iz G)
  clear kk ow iz G
  go_wp2_with fail
  go_ret
  obtain ⟨ow, iz, G⟩ := HG.out
  exact ⟨⟨v, xs⟩, rfl, ⟨ow, iz⟩, G⟩
theorem gsets (B R : Nat) (l : Bs) (w : World) (bx p e : Nat) (hlb : l.length ≤ 1048576) (hb : BxA w bx 88 #[.pointer (some ⟨R, 0, none⟩)]) (h : PS B w R l p e) :
    Calls Try.prog 100 #[.pointer (some ⟨R, 0, none⟩), .func (.func 101) #[] #[.pointer (some ⟨bx, 0, none⟩)]] w fun ev w' => ∃ (v : Value) (xs : List (Value × List Int)), ev = .returned v ∧ w'.ownsRow w.heap.size 123 1 v xs.length (xs.flatMap cl_set) ∧ (∀ x ∈ xs, SetIn w.heap.size w' x) ∧ Got B R l w w' (p, e) (skL l (skL l (skU l))) (Num.uv xs.length ++ xs.flatMap r_set) :=
  rl_set B R l w p e _ r_set (fun w' x => SetIn w.heap.size w' x) bx hlb (fwd_l (fwd_u l)) h (fun _ _ _ h k => SetIn.keep h k (by decide)) (fun x w h => own_sl h.1) fun w1 p1 e1 hk h1 => (gset B R l w1 bx p1 e1 hlb (BxA.ktt' hb hk (by decide)) h1).mono fun ev w' hh => by
    obtain ⟨x, e1, o1, g1⟩ := hh
    exact ⟨x, e1, o1.mono hk.1, g1⟩
theorem fwd_query' (l : Bs) (k : Nat) : Fwd l (fun s => skU l (skU l (skL l (skAgg l) (skL l (skL l (skU l)) (skU l (skFil l k (skSpan l s))))))) := ((((((fwd_span l).comp (fwd_fil l k)).comp (fwd_u l)).comp (fwd_l (fwd_l (fwd_u l)))).comp (fwd_l (fwd_agg l))).comp (fwd_u l)).comp (fwd_u l)
theorem fwd_query (l : Bs) : Fwd l (skQuery l) := by
  have := fwd_query' l 20
  unfold skQuery
  exact this
/-- Step by step; the place told as a pair. -/
theorem Got.comp2 {B R : Nat} {l : Bs} {w w1 w2 : World} {s : Sg2} {f g : Sg2 → Sg2} {a b : Bs} (hs : s.1 ≤ l.length) (hf : Fwd l f) (hg : Fwd l g) (h : Got B R l w w1 s f a) (k : Got B R l w1 w2 ((f s).1, (f s).2) g b) : Got B R l w w2 s (fun s => g (f s)) (a ++ b) := Got.comp hs hf hg h k
set_option maxRecDepth 100000 in
set_option maxHeartbeats 6400000 in
theorem gquery' (kd : Nat) (B R : Nat) (l : Bs) (w : World) (p e : Nat) (hlb : l.length ≤ 1048576) (h : PS B w R l p e) (hfil : ∀ (w : World) (p e : Nat), PS B w R l p e → Calls Try.prog 99 #[.pointer (some ⟨R, 0, none⟩), .int .i64 1] w fun ev w' => ∃ x : Fi.Tr, ev = .returned (.agg #[.int .i64 x.k, .int .i64 x.d, x.tv, .int .i64 x.lo, .int .i64 x.hi, x.kv]) ∧ Win w.heap.size w' (fun w => x.Ok w) ∧ (TrIn x ∧ (∃ a n c, x.tv = .slice a n c) ∧ (∃ a n c, x.kv = .slice a n c)) ∧ Got B R l w w' (p, e) (skFil l kd) (r_fil x)) :
    Calls Try.prog 46 #[.pointer (some ⟨R, 0, none⟩)] w fun ev w' => ∃ q : Qw, ev = .returned (.agg #[.int .i64 q.F, .int .i64 q.T, .int .i64 q.t.k, .int .i64 q.t.d, q.t.tv, .int .i64 q.t.lo, .int .i64 q.t.hi, q.t.kv, .int .i64 q.g, q.sv, q.av, .int .i64 q.G, .int .i64 q.R]) ∧ Win w.heap.size w' (fun w => q.Ok w) ∧ ((∃ a n c, q.t.tv = .slice a n c) ∧ (∃ a n c, q.t.kv = .slice a n c) ∧ (∃ a n c, q.sv = .slice a n c) ∧ (∃ a n c, q.av = .slice a n c)) ∧ Got B R l w w' (p, e) (fun s => skU l (skU l (skL l (skAgg l) (skL l (skL l (skU l)) (skU l (skFil l kd (skSpan l s))))))) (r_query q) := by
  have hRw := h.lt
  have hple := h.le
  obtain ⟨V, hV⟩ : ∃ V, V = ((w.alloc (.cells #[.pointer (some ⟨R, 0, none⟩)] 88)).alloc (.cells #[.int .i64 0, .int .i64 0, .int .i64 0, .int .i64 0, .slice none 0 0, .int .i64 0, .int .i64 0, .slice none 0 0, .int .i64 0, .slice none 0 0, .slice none 0 0, .int .i64 0, .int .i64 0] 36)) := ⟨_, rfl⟩
  have bV : Below (R + 1) w V := by rw [hV]; exact ((Below.refl (R + 1) w).alloc hRw _).alloc (Nat.le_trans hRw (by simp)) _
  have hP : PS B V R l p e := h.keep bV
  have gV : w.grownBy V (some R) := by rw [hV]; exact grown_trans' (grown_alloc _ _ _) (grown_alloc _ _ _)
  have xF : BxA V (w.heap.size + 1) 36 #[.int .i64 0, .int .i64 0, .int .i64 0, .int .i64 0, .slice none 0 0, .int .i64 0, .int .i64 0, .slice none 0 0, .int .i64 0, .slice none 0 0, .slice none 0 0, .int .i64 0, .int .i64 0] := by
    rw [hV]
    have := BxA.new (w.alloc (.cells #[.pointer (some ⟨R, 0, none⟩)] 88)) 36 #[.int .i64 0, .int .i64 0, .int .i64 0, .int .i64 0, .slice none 0 0, .int .i64 0, .int .i64 0, .slice none 0 0, .int .i64 0, .slice none 0 0, .slice none 0 0, .int .i64 0, .int .i64 0]
    simpa [BxA] using this
  have xR : BxA V w.heap.size 88 #[.pointer (some ⟨R, 0, none⟩)] := by
    rw [hV]
    unfold BxA
    rw [Below.heap_alloc _ _ _ (by simp)]
    exact BxA.new _ _ _
  have mixed : Try.prog.follows .mixedOrders = true := by kernel_rfl
  have HV : Hid (V = _) := hV
  have hSig0 : BxA V.drew w.heap.size 88 #[.pointer (some ⟨R, 0, none⟩)] := xR
  have hS00 : BxA V.drew (w.heap.size + 1) 36 #[.int .i64 0, .int .i64 0, .int .i64 0, .int .i64 0, .slice none 0 0, .int .i64 0, .int .i64 0, .slice none 0 0, .int .i64 0, .slice none 0 0, .slice none 0 0, .int .i64 0, .int .i64 0] ∧ Got B R l w V.drew (p, e) (fun s => s) [] := ⟨xF, Got.id hP ⟨gV.os, gV.tape, gV.output, gV.size, gV.block⟩⟩
  clear hV bV hP gV xF xR h
  go_enter Try.func46, Try.ntmps46
  go_upto_region 1 with fail
  rw [← HV.out]
  refine wp_region_invF (β := Value × Value × Value × Value × Value × Value × Value × Value × Value × Value × Value × Value × Value × Value × Value × Value × Value × Value) (fun a0 xq => ((((((((((((((((((a0.put (some 3) (xq.1)).put (some 4) (xq.2.1)).put (some 5) (xq.2.2.1)).put (some 6) (xq.2.2.2.1)).put (some 7) (xq.2.2.2.2.1)).put (some 8) (xq.2.2.2.2.2.1)).put (some 9) (xq.2.2.2.2.2.2.1)).put (some 10) (xq.2.2.2.2.2.2.2.1)).put (some 11) (xq.2.2.2.2.2.2.2.2.1)).put (some 12) (xq.2.2.2.2.2.2.2.2.2.1)).put (some 13) (xq.2.2.2.2.2.2.2.2.2.2.1)).put (some 14) (xq.2.2.2.2.2.2.2.2.2.2.2.1)).put (some 15) (xq.2.2.2.2.2.2.2.2.2.2.2.2.1)).put (some 16) (xq.2.2.2.2.2.2.2.2.2.2.2.2.2.1)).put (some 17) (xq.2.2.2.2.2.2.2.2.2.2.2.2.2.2.1)).put (some 18) (xq.2.2.2.2.2.2.2.2.2.2.2.2.2.2.2.1)).put (some 19) (xq.2.2.2.2.2.2.2.2.2.2.2.2.2.2.2.2.1)).put (some 20) (xq.2.2.2.2.2.2.2.2.2.2.2.2.2.2.2.2.2))) ?fr3 (fun xq d w' => (BxA w' w.heap.size 88 #[.pointer (some ⟨R, 0, none⟩)]) ∧ ((d 0 = true → (xq.1) = .pointer (some ⟨R, 0, none⟩)) ∧ (d 2 = true → (xq.2.2.1) = .pointer (some ⟨R, 0, none⟩)) ∧ (d 4 = true → (xq.2.2.2.2.1) = .pointer (some ⟨R, 0, none⟩)) ∧ (d 6 = true → (xq.2.2.2.2.2.2.1) = .pointer (some ⟨R, 0, none⟩)) ∧ (d 7 = true → (xq.2.2.2.2.2.2.2.1) = .func (.func 101) #[] #[.pointer (some ⟨w.heap.size, 0, none⟩)]) ∧ (d 9 = true → (xq.2.2.2.2.2.2.2.2.2.1) = .pointer (some ⟨R, 0, none⟩)) ∧ (d 10 = true → (xq.2.2.2.2.2.2.2.2.2.2.1) = .pointer (some ⟨R, 0, none⟩)) ∧ (d 11 = true → (xq.2.2.2.2.2.2.2.2.2.2.2.1) = .func (.func 104) #[.pointer (some ⟨R, 0, none⟩)] #[]) ∧ (d 13 = true → (xq.2.2.2.2.2.2.2.2.2.2.2.2.2.1) = .pointer (some ⟨R, 0, none⟩)) ∧ (d 15 = true → (xq.2.2.2.2.2.2.2.2.2.2.2.2.2.2.2.1) = .pointer (some ⟨R, 0, none⟩))) ∧ ∃ j : Nat, j ≤ 9 ∧ (d 1 = decide (0 < j) ∧ d 3 = decide (1 < j) ∧ d 5 = decide (2 < j) ∧ d 8 = decide (3 < j) ∧ d 12 = decide (4 < j) ∧ d 14 = decide (5 < j) ∧ d 16 = decide (6 < j) ∧ d 17 = decide (7 < j) ∧ d 18 = decide (8 < j)) ∧ ((j = 0 → BxA w' (w.heap.size + 1) 36 #[.int .i64 0, .int .i64 0, .int .i64 0, .int .i64 0, .slice none 0 0, .int .i64 0, .int .i64 0, .slice none 0 0, .int .i64 0, .slice none 0 0, .slice none 0 0, .int .i64 0, .int .i64 0] ∧ Got B R l w w' (p, e) (fun s => s) ([])) ∧ (j = 1 → ∃ (F T : Int), ((xq.2.1) = .agg #[.int .i64 F, .int .i64 T] ∧ In64 F ∧ In64 T) ∧ BxA w' (w.heap.size + 1) 36 #[.int .i64 0, .int .i64 0, .int .i64 0, .int .i64 0, .slice none 0 0, .int .i64 0, .int .i64 0, .slice none 0 0, .int .i64 0, .slice none 0 0, .slice none 0 0, .int .i64 0, .int .i64 0] ∧ Got B R l w w' (p, e) (fun s => skSpan l s) (r_span F T)) ∧ (j = 2 → ∃ (F T : Int) (t : Fi.Tr) (a1 : Option Addr) (n1 m1 : Nat) (a2 : Option Addr) (n2 m2 : Nat), ((xq.2.1) = .agg #[.int .i64 F, .int .i64 T] ∧ In64 F ∧ In64 T) ∧ ((xq.2.2.2.1) = .agg #[.int .i64 t.k, .int .i64 t.d, .slice a1 n1 m1, .int .i64 t.lo, .int .i64 t.hi, .slice a2 n2 m2] ∧ Win (w.heap.size + 1 + 1) w' (fun w => t.Ok w) ∧ TrIn t ∧ t.tv = .slice a1 n1 m1 ∧ t.kv = .slice a2 n2 m2) ∧ BxA w' (w.heap.size + 1) 36 #[.int .i64 0, .int .i64 0, .int .i64 0, .int .i64 0, .slice none 0 0, .int .i64 0, .int .i64 0, .slice none 0 0, .int .i64 0, .slice none 0 0, .slice none 0 0, .int .i64 0, .int .i64 0] ∧ Got B R l w w' (p, e) (fun s => skFil l kd (skSpan l s)) ((r_span F T) ++ r_fil t)) ∧ (j = 3 → ∃ (F T : Int) (t : Fi.Tr) (a1 : Option Addr) (n1 m1 : Nat) (a2 : Option Addr) (n2 m2 : Nat) (g : Int), ((xq.2.1) = .agg #[.int .i64 F, .int .i64 T] ∧ In64 F ∧ In64 T) ∧ ((xq.2.2.2.1) = .agg #[.int .i64 t.k, .int .i64 t.d, .slice a1 n1 m1, .int .i64 t.lo, .int .i64 t.hi, .slice a2 n2 m2] ∧ Win (w.heap.size + 1 + 1) w' (fun w => t.Ok w) ∧ TrIn t ∧ t.tv = .slice a1 n1 m1 ∧ t.kv = .slice a2 n2 m2) ∧ ((xq.2.2.2.2.2.1) = .int .i64 g ∧ In64 g) ∧ BxA w' (w.heap.size + 1) 36 #[.int .i64 0, .int .i64 0, .int .i64 0, .int .i64 0, .slice none 0 0, .int .i64 0, .int .i64 0, .slice none 0 0, .int .i64 0, .slice none 0 0, .slice none 0 0, .int .i64 0, .int .i64 0] ∧ Got B R l w w' (p, e) (fun s => skU l (skFil l kd (skSpan l s))) (((r_span F T) ++ r_fil t) ++ ei g)) ∧ (j = 4 → ∃ (F T : Int) (t : Fi.Tr) (a1 : Option Addr) (n1 m1 : Nat) (a2 : Option Addr) (n2 m2 : Nat) (g : Int) (a3 : Option Addr) (n3 m3 : Nat) (ss : List (Value × List Int)), ((xq.2.1) = .agg #[.int .i64 F, .int .i64 T] ∧ In64 F ∧ In64 T) ∧ ((xq.2.2.2.1) = .agg #[.int .i64 t.k, .int .i64 t.d, .slice a1 n1 m1, .int .i64 t.lo, .int .i64 t.hi, .slice a2 n2 m2] ∧ Win (w.heap.size + 1 + 1) w' (fun w => t.Ok w) ∧ TrIn t ∧ t.tv = .slice a1 n1 m1 ∧ t.kv = .slice a2 n2 m2) ∧ ((xq.2.2.2.2.2.1) = .int .i64 g ∧ In64 g) ∧ ((xq.2.2.2.2.2.2.2.2.1) = .slice a3 n3 m3 ∧ w'.ownsRow (w.heap.size + 1 + 1) 123 1 (.slice a3 n3 m3) ss.length (ss.flatMap cl_set) ∧ (∀ x ∈ ss, SetIn (w.heap.size + 1 + 1) w' x)) ∧ BxA w' (w.heap.size + 1) 36 #[.int .i64 0, .int .i64 0, .int .i64 0, .int .i64 0, .slice none 0 0, .int .i64 0, .int .i64 0, .slice none 0 0, .int .i64 0, .slice none 0 0, .slice none 0 0, .int .i64 0, .int .i64 0] ∧ Got B R l w w' (p, e) (fun s => skL l (skL l (skU l)) (skU l (skFil l kd (skSpan l s)))) ((((r_span F T) ++ r_fil t) ++ ei g) ++ (Num.uv ss.length ++ ss.flatMap r_set))) ∧ (j = 5 → ∃ (F T : Int) (t : Fi.Tr) (a1 : Option Addr) (n1 m1 : Nat) (a2 : Option Addr) (n2 m2 : Nat) (g : Int) (a3 : Option Addr) (n3 m3 : Nat) (ss : List (Value × List Int)) (a4 : Option Addr) (n4 m4 : Nat) (ag : List (Int × Int)), ((xq.2.1) = .agg #[.int .i64 F, .int .i64 T] ∧ In64 F ∧ In64 T) ∧ ((xq.2.2.2.1) = .agg #[.int .i64 t.k, .int .i64 t.d, .slice a1 n1 m1, .int .i64 t.lo, .int .i64 t.hi, .slice a2 n2 m2] ∧ Win (w.heap.size + 1 + 1) w' (fun w => t.Ok w) ∧ TrIn t ∧ t.tv = .slice a1 n1 m1 ∧ t.kv = .slice a2 n2 m2) ∧ ((xq.2.2.2.2.2.1) = .int .i64 g ∧ In64 g) ∧ ((xq.2.2.2.2.2.2.2.2.1) = .slice a3 n3 m3 ∧ w'.ownsRow (w.heap.size + 1 + 1) 123 1 (.slice a3 n3 m3) ss.length (ss.flatMap cl_set) ∧ (∀ x ∈ ss, SetIn (w.heap.size + 1 + 1) w' x)) ∧ ((xq.2.2.2.2.2.2.2.2.2.2.2.2.1) = .slice a4 n4 m4 ∧ w'.ownsRow (w.heap.size + 1 + 1) 128 2 (.slice a4 n4 m4) ag.length (ag.flatMap cl_agg) ∧ (∀ x ∈ ag, In64 x.1 ∧ In64 x.2)) ∧ BxA w' (w.heap.size + 1) 36 #[.int .i64 0, .int .i64 0, .int .i64 0, .int .i64 0, .slice none 0 0, .int .i64 0, .int .i64 0, .slice none 0 0, .int .i64 0, .slice none 0 0, .slice none 0 0, .int .i64 0, .int .i64 0] ∧ Got B R l w w' (p, e) (fun s => skL l (skAgg l) (skL l (skL l (skU l)) (skU l (skFil l kd (skSpan l s))))) (((((r_span F T) ++ r_fil t) ++ ei g) ++ (Num.uv ss.length ++ ss.flatMap r_set)) ++ (Num.uv ag.length ++ ag.flatMap r_agg))) ∧ (j = 6 → ∃ (F T : Int) (t : Fi.Tr) (a1 : Option Addr) (n1 m1 : Nat) (a2 : Option Addr) (n2 m2 : Nat) (g : Int) (a3 : Option Addr) (n3 m3 : Nat) (ss : List (Value × List Int)) (a4 : Option Addr) (n4 m4 : Nat) (ag : List (Int × Int)) (GR : Int), ((xq.2.1) = .agg #[.int .i64 F, .int .i64 T] ∧ In64 F ∧ In64 T) ∧ ((xq.2.2.2.1) = .agg #[.int .i64 t.k, .int .i64 t.d, .slice a1 n1 m1, .int .i64 t.lo, .int .i64 t.hi, .slice a2 n2 m2] ∧ Win (w.heap.size + 1 + 1) w' (fun w => t.Ok w) ∧ TrIn t ∧ t.tv = .slice a1 n1 m1 ∧ t.kv = .slice a2 n2 m2) ∧ ((xq.2.2.2.2.2.1) = .int .i64 g ∧ In64 g) ∧ ((xq.2.2.2.2.2.2.2.2.1) = .slice a3 n3 m3 ∧ w'.ownsRow (w.heap.size + 1 + 1) 123 1 (.slice a3 n3 m3) ss.length (ss.flatMap cl_set) ∧ (∀ x ∈ ss, SetIn (w.heap.size + 1 + 1) w' x)) ∧ ((xq.2.2.2.2.2.2.2.2.2.2.2.2.1) = .slice a4 n4 m4 ∧ w'.ownsRow (w.heap.size + 1 + 1) 128 2 (.slice a4 n4 m4) ag.length (ag.flatMap cl_agg) ∧ (∀ x ∈ ag, In64 x.1 ∧ In64 x.2)) ∧ ((xq.2.2.2.2.2.2.2.2.2.2.2.2.2.2.1) = .int .i64 GR ∧ In64 GR) ∧ BxA w' (w.heap.size + 1) 36 #[.int .i64 0, .int .i64 0, .int .i64 0, .int .i64 0, .slice none 0 0, .int .i64 0, .int .i64 0, .slice none 0 0, .int .i64 0, .slice none 0 0, .slice none 0 0, .int .i64 0, .int .i64 0] ∧ Got B R l w w' (p, e) (fun s => skU l (skL l (skAgg l) (skL l (skL l (skU l)) (skU l (skFil l kd (skSpan l s)))))) ((((((r_span F T) ++ r_fil t) ++ ei g) ++ (Num.uv ss.length ++ ss.flatMap r_set)) ++ (Num.uv ag.length ++ ag.flatMap r_agg)) ++ ei GR)) ∧ (j = 7 → ∃ (F T : Int) (t : Fi.Tr) (a1 : Option Addr) (n1 m1 : Nat) (a2 : Option Addr) (n2 m2 : Nat) (g : Int) (a3 : Option Addr) (n3 m3 : Nat) (ss : List (Value × List Int)) (a4 : Option Addr) (n4 m4 : Nat) (ag : List (Int × Int)) (GR : Int) (RO : Int), ((xq.2.1) = .agg #[.int .i64 F, .int .i64 T] ∧ In64 F ∧ In64 T) ∧ ((xq.2.2.2.1) = .agg #[.int .i64 t.k, .int .i64 t.d, .slice a1 n1 m1, .int .i64 t.lo, .int .i64 t.hi, .slice a2 n2 m2] ∧ Win (w.heap.size + 1 + 1) w' (fun w => t.Ok w) ∧ TrIn t ∧ t.tv = .slice a1 n1 m1 ∧ t.kv = .slice a2 n2 m2) ∧ ((xq.2.2.2.2.2.1) = .int .i64 g ∧ In64 g) ∧ ((xq.2.2.2.2.2.2.2.2.1) = .slice a3 n3 m3 ∧ w'.ownsRow (w.heap.size + 1 + 1) 123 1 (.slice a3 n3 m3) ss.length (ss.flatMap cl_set) ∧ (∀ x ∈ ss, SetIn (w.heap.size + 1 + 1) w' x)) ∧ ((xq.2.2.2.2.2.2.2.2.2.2.2.2.1) = .slice a4 n4 m4 ∧ w'.ownsRow (w.heap.size + 1 + 1) 128 2 (.slice a4 n4 m4) ag.length (ag.flatMap cl_agg) ∧ (∀ x ∈ ag, In64 x.1 ∧ In64 x.2)) ∧ ((xq.2.2.2.2.2.2.2.2.2.2.2.2.2.2.1) = .int .i64 GR ∧ In64 GR) ∧ ((xq.2.2.2.2.2.2.2.2.2.2.2.2.2.2.2.2.1) = .int .i64 RO ∧ In64 RO) ∧ BxA w' (w.heap.size + 1) 36 #[.int .i64 0, .int .i64 0, .int .i64 0, .int .i64 0, .slice none 0 0, .int .i64 0, .int .i64 0, .slice none 0 0, .int .i64 0, .slice none 0 0, .slice none 0 0, .int .i64 0, .int .i64 0] ∧ Got B R l w w' (p, e) (fun s => skU l (skU l (skL l (skAgg l) (skL l (skL l (skU l)) (skU l (skFil l kd (skSpan l s))))))) (((((((r_span F T) ++ r_fil t) ++ ei g) ++ (Num.uv ss.length ++ ss.flatMap r_set)) ++ (Num.uv ag.length ++ ag.flatMap r_agg)) ++ ei GR) ++ ei RO)) ∧ (j = 8 → ∃ (F T : Int) (t : Fi.Tr) (a1 : Option Addr) (n1 m1 : Nat) (a2 : Option Addr) (n2 m2 : Nat) (g : Int) (a3 : Option Addr) (n3 m3 : Nat) (ss : List (Value × List Int)) (a4 : Option Addr) (n4 m4 : Nat) (ag : List (Int × Int)) (GR : Int) (RO : Int), ((xq.2.1) = .agg #[.int .i64 F, .int .i64 T] ∧ In64 F ∧ In64 T) ∧ ((xq.2.2.2.1) = .agg #[.int .i64 t.k, .int .i64 t.d, .slice a1 n1 m1, .int .i64 t.lo, .int .i64 t.hi, .slice a2 n2 m2] ∧ Win (w.heap.size + 1 + 1) w' (fun w => t.Ok w) ∧ TrIn t ∧ t.tv = .slice a1 n1 m1 ∧ t.kv = .slice a2 n2 m2) ∧ ((xq.2.2.2.2.2.1) = .int .i64 g ∧ In64 g) ∧ ((xq.2.2.2.2.2.2.2.2.1) = .slice a3 n3 m3 ∧ w'.ownsRow (w.heap.size + 1 + 1) 123 1 (.slice a3 n3 m3) ss.length (ss.flatMap cl_set) ∧ (∀ x ∈ ss, SetIn (w.heap.size + 1 + 1) w' x)) ∧ ((xq.2.2.2.2.2.2.2.2.2.2.2.2.1) = .slice a4 n4 m4 ∧ w'.ownsRow (w.heap.size + 1 + 1) 128 2 (.slice a4 n4 m4) ag.length (ag.flatMap cl_agg) ∧ (∀ x ∈ ag, In64 x.1 ∧ In64 x.2)) ∧ ((xq.2.2.2.2.2.2.2.2.2.2.2.2.2.2.1) = .int .i64 GR ∧ In64 GR) ∧ ((xq.2.2.2.2.2.2.2.2.2.2.2.2.2.2.2.2.1) = .int .i64 RO ∧ In64 RO) ∧ (xq.2.2.2.2.2.2.2.2.2.2.2.2.2.2.2.2.2) = .agg #[.int .i64 F, .int .i64 T, .int .i64 t.k, .int .i64 t.d, .slice a1 n1 m1, .int .i64 t.lo, .int .i64 t.hi, .slice a2 n2 m2, .int .i64 g, .slice a3 n3 m3, .slice a4 n4 m4, .int .i64 GR, .int .i64 RO] ∧ BxA w' (w.heap.size + 1) 36 #[.int .i64 0, .int .i64 0, .int .i64 0, .int .i64 0, .slice none 0 0, .int .i64 0, .int .i64 0, .slice none 0 0, .int .i64 0, .slice none 0 0, .slice none 0 0, .int .i64 0, .int .i64 0] ∧ Got B R l w w' (p, e) (fun s => skU l (skU l (skL l (skAgg l) (skL l (skL l (skU l)) (skU l (skFil l kd (skSpan l s))))))) (((((((r_span F T) ++ r_fil t) ++ ei g) ++ (Num.uv ss.length ++ ss.flatMap r_set)) ++ (Num.uv ag.length ++ ag.flatMap r_agg)) ++ ei GR) ++ ei RO)) ∧ (j = 9 → ∃ (F T : Int) (t : Fi.Tr) (a1 : Option Addr) (n1 m1 : Nat) (a2 : Option Addr) (n2 m2 : Nat) (g : Int) (a3 : Option Addr) (n3 m3 : Nat) (ss : List (Value × List Int)) (a4 : Option Addr) (n4 m4 : Nat) (ag : List (Int × Int)) (GR : Int) (RO : Int), (In64 F ∧ In64 T) ∧ (Win (w.heap.size + 1 + 1) w' (fun w => t.Ok w) ∧ TrIn t ∧ t.tv = .slice a1 n1 m1 ∧ t.kv = .slice a2 n2 m2) ∧ (In64 g) ∧ (w'.ownsRow (w.heap.size + 1 + 1) 123 1 (.slice a3 n3 m3) ss.length (ss.flatMap cl_set) ∧ (∀ x ∈ ss, SetIn (w.heap.size + 1 + 1) w' x)) ∧ (w'.ownsRow (w.heap.size + 1 + 1) 128 2 (.slice a4 n4 m4) ag.length (ag.flatMap cl_agg) ∧ (∀ x ∈ ag, In64 x.1 ∧ In64 x.2)) ∧ (In64 GR) ∧ (In64 RO) ∧ BxA w' (w.heap.size + 1) 36 #[.int .i64 F, .int .i64 T, .int .i64 t.k, .int .i64 t.d, .slice a1 n1 m1, .int .i64 t.lo, .int .i64 t.hi, .slice a2 n2 m2, .int .i64 g, .slice a3 n3 m3, .slice a4 n4 m4, .int .i64 GR, .int .i64 RO] ∧ Got B R l w w' (p, e) (fun s => skU l (skU l (skL l (skAgg l) (skL l (skL l (skU l)) (skU l (skFil l kd (skSpan l s))))))) (((((((r_span F T) ++ r_fil t) ++ ei g) ++ (Num.uv ss.length ++ ss.flatMap r_set)) ++ (Num.uv ag.length ++ ag.flatMap r_agg)) ++ ei GR) ++ ei RO)))) ?lay3 mixed (by kernel_rfl) ?h03 ?hs3 ?he3
  case lay3 =>
    intro xq
    simp only [Act.put, List.setIfInBounds_toArray, List.set_cons_zero, List.set_cons_succ]
    rfl
  case h03 =>
    refine ⟨(undef, undef, undef, undef, undef, undef, undef, undef, undef, undef, undef, undef, undef, undef, undef, undef, undef, undef), rfl, ?sig3, ⟨(fun h => by cases h), (fun h => by cases h), (fun h => by cases h), (fun h => by cases h), (fun h => by cases h), (fun h => by cases h), (fun h => by cases h), (fun h => by cases h), (fun h => by cases h), (fun h => by cases h)⟩, 0, Nat.zero_le _, ⟨rfl, rfl, rfl, rfl, rfl, rfl, rfl, rfl, rfl⟩, ?S03, (fun h => by cases h), (fun h => by cases h), (fun h => by cases h), (fun h => by cases h), (fun h => by cases h), (fun h => by cases h), (fun h => by cases h), (fun h => by cases h), (fun h => by cases h)⟩
    case sig3 => exact hSig0
    case S03 => exact fun _ => hS00
  case hs3 =>
    refine ⟨?_, ?_, ?_, ?_, ?_, ?_, ?_, ?_, ?_, ?_, ?_, ?_, ?_, ?_, ?_, ?_, ?_, ?_, ?_, trivial⟩
    · rintro d ⟨x3, x4, x5, x6, x7, x8, x9, x10, x11, x12, x13, x14, x15, x16, x17, x18, x19, x20⟩ w' hI hd hdp K hK
      dsimp only at hI
      obtain ⟨hS, ⟨f0, f2, f4, f6, f7, f9, f10, f11, f13, f15⟩, j, hj, ⟨dd1, dd3, dd5, dd8, dd12, dd14, dd16, dd17, dd18⟩, ⟨p0, p1, p2, p3, p4, p5, p6, p7, p8, p9⟩⟩ := hI
      have c0 : w'.cell? ⟨w.heap.size, 0, none⟩ = some (.pointer (some ⟨R, 0, none⟩)) := BxA.cell hS 0 _ rfl
      have HF : Hid _ := And.intro hS (And.intro (And.intro f0 (And.intro f2 (And.intro f4 (And.intro f6 (And.intro f7 (And.intro f9 (And.intro f10 (And.intro f11 (And.intro f13 f15))))))))) (And.intro hj (And.intro (And.intro dd1 (And.intro dd3 (And.intro dd5 (And.intro dd8 (And.intro dd12 (And.intro dd14 (And.intro dd16 (And.intro dd17 dd18)))))))) (And.intro p0 (And.intro p1 (And.intro p2 (And.intro p3 (And.intro p4 (And.intro p5 (And.intro p6 (And.intro p7 (And.intro p8 p9))))))))))))
      clear hS f0 f2 f4 f6 f7 f9 f10 f11 f13 f15 hj dd1 dd3 dd5 dd8 dd12 dd14 dd16 dd17 dd18 p0 p1 p2 p3 p4 p5 p6 p7 p8 p9 hdp hd
      refine Opn.mk ?_
      dsimp only
      go_simp
      obtain ⟨hS, ⟨f0, f2, f4, f6, f7, f9, f10, f11, f13, f15⟩, hj, ⟨dd1, dd3, dd5, dd8, dd12, dd14, dd16, dd17, dd18⟩, ⟨p0, p1, p2, p3, p4, p5, p6, p7, p8, p9⟩⟩ := HF.out
      exact hK.out (.pointer (some ⟨R, 0, none⟩), x4, x5, x6, x7, x8, x9, x10, x11, x12, x13, x14, x15, x16, x17, x18, x19, x20) _ ⟨hS, ⟨(fun _ => rfl), (fun h => f2 (upd_ne h (by decide))), (fun h => f4 (upd_ne h (by decide))), (fun h => f6 (upd_ne h (by decide))), (fun h => f7 (upd_ne h (by decide))), (fun h => f9 (upd_ne h (by decide))), (fun h => f10 (upd_ne h (by decide))), (fun h => f11 (upd_ne h (by decide))), (fun h => f13 (upd_ne h (by decide))), (fun h => f15 (upd_ne h (by decide)))⟩, j, hj, ⟨((upd_no (by decide)).trans dd1), ((upd_no (by decide)).trans dd3), ((upd_no (by decide)).trans dd5), ((upd_no (by decide)).trans dd8), ((upd_no (by decide)).trans dd12), ((upd_no (by decide)).trans dd14), ((upd_no (by decide)).trans dd16), ((upd_no (by decide)).trans dd17), ((upd_no (by decide)).trans dd18)⟩, ⟨p0, p1, p2, p3, p4, p5, p6, p7, p8, p9⟩⟩
    · rintro d ⟨x3, x4, x5, x6, x7, x8, x9, x10, x11, x12, x13, x14, x15, x16, x17, x18, x19, x20⟩ w' hI hd hdp K hK
      dsimp only at hI
      obtain ⟨hS, ⟨f0, f2, f4, f6, f7, f9, f10, f11, f13, f15⟩, j, hj, ⟨dd1, dd3, dd5, dd8, dd12, dd14, dd16, dd17, dd18⟩, ⟨p0, p1, p2, p3, p4, p5, p6, p7, p8, p9⟩⟩ := hI
      obtain rfl := f0 (hdp 0 (by decide +kernel))
      obtain rfl := ph_zero dd1 hd
      have s := p0 rfl
      clear p0 p1 p2 p3 p4 p5 p6 p7 p8 p9 hj
      obtain ⟨z, G⟩ := s
      have kk := gspan B R l w' _ _ hlb G.ps
      have HG : Hid _ := (And.intro hS (And.intro z G))
      clear hS  z G
      have HF : Hid _ := And.intro (And.intro f0 (And.intro f2 (And.intro f4 (And.intro f6 (And.intro f7 (And.intro f9 (And.intro f10 (And.intro f11 (And.intro f13 f15))))))))) (And.intro dd1 (And.intro dd3 (And.intro dd5 (And.intro dd8 (And.intro dd12 (And.intro dd14 (And.intro dd16 (And.intro dd17 dd18))))))))
      clear f0 f2 f4 f6 f7 f9 f10 f11 f13 f15 dd1 dd3 dd5 dd8 dd12 dd14 dd16 dd17 dd18 hdp hd
      refine Opn.mk ?_
      dsimp only
      go_simp
      go_wp2_with (first | (go_at_call 98; with_reducible refine kk.mono ?_; rintro e5 w5 ⟨F, T, rfl, iF, iT, G5⟩))
      obtain ⟨hS, z, G⟩ := HG.out
      obtain ⟨⟨f0, f2, f4, f6, f7, f9, f10, f11, f13, f15⟩, ⟨dd1, dd3, dd5, dd8, dd12, dd14, dd16, dd17, dd18⟩⟩ := HF.out
      refine hK.out (.pointer (some ⟨R, 0, none⟩), .agg #[.int .i64 F, .int .i64 T], x5, x6, x7, x8, x9, x10, x11, x12, x13, x14, x15, x16, x17, x18, x19, x20) _ ⟨?sg, ⟨(fun _ => rfl), (fun h => f2 (upd_ne h (by decide))), (fun h => f4 (upd_ne h (by decide))), (fun h => f6 (upd_ne h (by decide))), (fun h => f7 (upd_ne h (by decide))), (fun h => f9 (upd_ne h (by decide))), (fun h => f10 (upd_ne h (by decide))), (fun h => f11 (upd_ne h (by decide))), (fun h => f13 (upd_ne h (by decide))), (fun h => f15 (upd_ne h (by decide)))⟩, 1, by decide, ⟨(by simp [upd]), ((upd_no (by decide)).trans (dd3.trans (by decide))), ((upd_no (by decide)).trans (dd5.trans (by decide))), ((upd_no (by decide)).trans (dd8.trans (by decide))), ((upd_no (by decide)).trans (dd12.trans (by decide))), ((upd_no (by decide)).trans (dd14.trans (by decide))), ((upd_no (by decide)).trans (dd16.trans (by decide))), ((upd_no (by decide)).trans (dd17.trans (by decide))), ((upd_no (by decide)).trans (dd18.trans (by decide)))⟩, ⟨(fun h => absurd h (by decide)), (fun _ => ?new), (fun h => absurd h (by decide)), (fun h => absurd h (by decide)), (fun h => absurd h (by decide)), (fun h => absurd h (by decide)), (fun h => absurd h (by decide)), (fun h => absurd h (by decide)), (fun h => absurd h (by decide)), (fun h => absurd h (by decide))⟩⟩
      case sg => exact BxA.grow hS G5.g (by omega)
      case new =>
        have KR := PS.ktt G.ps G5.g
        have GC := Got.comp2 hple (fwd_id l) (fwd_span l) G G5
        exact ⟨F, T, ⟨rfl, iF, iT⟩, BxA.grow z G5.g (by omega), GC⟩
    · rintro d ⟨x3, x4, x5, x6, x7, x8, x9, x10, x11, x12, x13, x14, x15, x16, x17, x18, x19, x20⟩ w' hI hd hdp K hK
      dsimp only at hI
      obtain ⟨hS, ⟨f0, f2, f4, f6, f7, f9, f10, f11, f13, f15⟩, j, hj, ⟨dd1, dd3, dd5, dd8, dd12, dd14, dd16, dd17, dd18⟩, ⟨p0, p1, p2, p3, p4, p5, p6, p7, p8, p9⟩⟩ := hI
      have c0 : w'.cell? ⟨w.heap.size, 0, none⟩ = some (.pointer (some ⟨R, 0, none⟩)) := BxA.cell hS 0 _ rfl
      have HF : Hid _ := And.intro hS (And.intro (And.intro f0 (And.intro f2 (And.intro f4 (And.intro f6 (And.intro f7 (And.intro f9 (And.intro f10 (And.intro f11 (And.intro f13 f15))))))))) (And.intro hj (And.intro (And.intro dd1 (And.intro dd3 (And.intro dd5 (And.intro dd8 (And.intro dd12 (And.intro dd14 (And.intro dd16 (And.intro dd17 dd18)))))))) (And.intro p0 (And.intro p1 (And.intro p2 (And.intro p3 (And.intro p4 (And.intro p5 (And.intro p6 (And.intro p7 (And.intro p8 p9))))))))))))
      clear hS f0 f2 f4 f6 f7 f9 f10 f11 f13 f15 hj dd1 dd3 dd5 dd8 dd12 dd14 dd16 dd17 dd18 p0 p1 p2 p3 p4 p5 p6 p7 p8 p9 hdp hd
      refine Opn.mk ?_
      dsimp only
      go_simp
      obtain ⟨hS, ⟨f0, f2, f4, f6, f7, f9, f10, f11, f13, f15⟩, hj, ⟨dd1, dd3, dd5, dd8, dd12, dd14, dd16, dd17, dd18⟩, ⟨p0, p1, p2, p3, p4, p5, p6, p7, p8, p9⟩⟩ := HF.out
      exact hK.out (x3, x4, .pointer (some ⟨R, 0, none⟩), x6, x7, x8, x9, x10, x11, x12, x13, x14, x15, x16, x17, x18, x19, x20) _ ⟨hS, ⟨(fun h => f0 (upd_ne h (by decide))), (fun _ => rfl), (fun h => f4 (upd_ne h (by decide))), (fun h => f6 (upd_ne h (by decide))), (fun h => f7 (upd_ne h (by decide))), (fun h => f9 (upd_ne h (by decide))), (fun h => f10 (upd_ne h (by decide))), (fun h => f11 (upd_ne h (by decide))), (fun h => f13 (upd_ne h (by decide))), (fun h => f15 (upd_ne h (by decide)))⟩, j, hj, ⟨((upd_no (by decide)).trans dd1), ((upd_no (by decide)).trans dd3), ((upd_no (by decide)).trans dd5), ((upd_no (by decide)).trans dd8), ((upd_no (by decide)).trans dd12), ((upd_no (by decide)).trans dd14), ((upd_no (by decide)).trans dd16), ((upd_no (by decide)).trans dd17), ((upd_no (by decide)).trans dd18)⟩, ⟨p0, p1, p2, p3, p4, p5, p6, p7, p8, p9⟩⟩
    · rintro d ⟨x3, x4, x5, x6, x7, x8, x9, x10, x11, x12, x13, x14, x15, x16, x17, x18, x19, x20⟩ w' hI hd hdp K hK
      dsimp only at hI
      obtain ⟨hS, ⟨f0, f2, f4, f6, f7, f9, f10, f11, f13, f15⟩, j, hj, ⟨dd1, dd3, dd5, dd8, dd12, dd14, dd16, dd17, dd18⟩, ⟨p0, p1, p2, p3, p4, p5, p6, p7, p8, p9⟩⟩ := hI
      obtain rfl := f2 (hdp 2 (by decide +kernel))
      obtain rfl := ph_eq (k := 0) dd3 hd dd1 (hdp 1 (by decide +kernel))
      have s := p1 rfl
      clear p0 p1 p2 p3 p4 p5 p6 p7 p8 p9 hj
      obtain ⟨F, T, ⟨e4, iF, iT⟩, z, G⟩ := s
      have kk := hfil w' _ _ G.ps
      have HG : Hid _ := (And.intro hS (And.intro e4 (And.intro iF (And.intro iT (And.intro z G)))))
      clear hS e4 iF iT z G
      have HF : Hid _ := And.intro (And.intro f0 (And.intro f2 (And.intro f4 (And.intro f6 (And.intro f7 (And.intro f9 (And.intro f10 (And.intro f11 (And.intro f13 f15))))))))) (And.intro dd1 (And.intro dd3 (And.intro dd5 (And.intro dd8 (And.intro dd12 (And.intro dd14 (And.intro dd16 (And.intro dd17 dd18))))))))
      clear f0 f2 f4 f6 f7 f9 f10 f11 f13 f15 dd1 dd3 dd5 dd8 dd12 dd14 dd16 dd17 dd18 hdp hd
      refine Opn.mk ?_
      dsimp only
      go_simp
      go_wp2_with (first | (go_at_call 99; with_reducible refine kk.mono ?_; rintro e5 w5 ⟨t, rfl, wt, ⟨it, ⟨a1, n1, m1, et1⟩, ⟨a2, n2, m2, et2⟩⟩, G5⟩))
      obtain ⟨hS, e4, iF, iT, z, G⟩ := HG.out
      obtain ⟨⟨f0, f2, f4, f6, f7, f9, f10, f11, f13, f15⟩, ⟨dd1, dd3, dd5, dd8, dd12, dd14, dd16, dd17, dd18⟩⟩ := HF.out
      refine hK.out (x3, x4, .pointer (some ⟨R, 0, none⟩), .agg #[.int .i64 t.k, .int .i64 t.d, .slice a1 n1 m1, .int .i64 t.lo, .int .i64 t.hi, .slice a2 n2 m2], x7, x8, x9, x10, x11, x12, x13, x14, x15, x16, x17, x18, x19, x20) _ ⟨?sg, ⟨(fun h => f0 (upd_ne h (by decide))), (fun _ => rfl), (fun h => f4 (upd_ne h (by decide))), (fun h => f6 (upd_ne h (by decide))), (fun h => f7 (upd_ne h (by decide))), (fun h => f9 (upd_ne h (by decide))), (fun h => f10 (upd_ne h (by decide))), (fun h => f11 (upd_ne h (by decide))), (fun h => f13 (upd_ne h (by decide))), (fun h => f15 (upd_ne h (by decide)))⟩, 2, by decide, ⟨((upd_no (by decide)).trans (dd1.trans (by decide))), (by simp [upd]), ((upd_no (by decide)).trans (dd5.trans (by decide))), ((upd_no (by decide)).trans (dd8.trans (by decide))), ((upd_no (by decide)).trans (dd12.trans (by decide))), ((upd_no (by decide)).trans (dd14.trans (by decide))), ((upd_no (by decide)).trans (dd16.trans (by decide))), ((upd_no (by decide)).trans (dd17.trans (by decide))), ((upd_no (by decide)).trans (dd18.trans (by decide)))⟩, ⟨(fun h => absurd h (by decide)), (fun h => absurd h (by decide)), (fun _ => ?new), (fun h => absurd h (by decide)), (fun h => absurd h (by decide)), (fun h => absurd h (by decide)), (fun h => absurd h (by decide)), (fun h => absurd h (by decide)), (fun h => absurd h (by decide)), (fun h => absurd h (by decide))⟩⟩
      case sg => exact BxA.grow hS G5.g (by omega)
      case new =>
        have KR := PS.ktt G.ps G5.g
        have GC := Got.comp2 hple (fwd_span l) (fwd_fil l kd) G G5
        exact ⟨F, T, t, a1, n1, m1, a2, n2, m2, ⟨e4, iF, iT⟩, ⟨rfl, wt.mono (BxA.lt z), it, et1, et2⟩, BxA.grow z G5.g (by omega), GC⟩
    · rintro d ⟨x3, x4, x5, x6, x7, x8, x9, x10, x11, x12, x13, x14, x15, x16, x17, x18, x19, x20⟩ w' hI hd hdp K hK
      dsimp only at hI
      obtain ⟨hS, ⟨f0, f2, f4, f6, f7, f9, f10, f11, f13, f15⟩, j, hj, ⟨dd1, dd3, dd5, dd8, dd12, dd14, dd16, dd17, dd18⟩, ⟨p0, p1, p2, p3, p4, p5, p6, p7, p8, p9⟩⟩ := hI
      have c0 : w'.cell? ⟨w.heap.size, 0, none⟩ = some (.pointer (some ⟨R, 0, none⟩)) := BxA.cell hS 0 _ rfl
      have HF : Hid _ := And.intro hS (And.intro (And.intro f0 (And.intro f2 (And.intro f4 (And.intro f6 (And.intro f7 (And.intro f9 (And.intro f10 (And.intro f11 (And.intro f13 f15))))))))) (And.intro hj (And.intro (And.intro dd1 (And.intro dd3 (And.intro dd5 (And.intro dd8 (And.intro dd12 (And.intro dd14 (And.intro dd16 (And.intro dd17 dd18)))))))) (And.intro p0 (And.intro p1 (And.intro p2 (And.intro p3 (And.intro p4 (And.intro p5 (And.intro p6 (And.intro p7 (And.intro p8 p9))))))))))))
      clear hS f0 f2 f4 f6 f7 f9 f10 f11 f13 f15 hj dd1 dd3 dd5 dd8 dd12 dd14 dd16 dd17 dd18 p0 p1 p2 p3 p4 p5 p6 p7 p8 p9 hdp hd
      refine Opn.mk ?_
      dsimp only
      go_simp
      obtain ⟨hS, ⟨f0, f2, f4, f6, f7, f9, f10, f11, f13, f15⟩, hj, ⟨dd1, dd3, dd5, dd8, dd12, dd14, dd16, dd17, dd18⟩, ⟨p0, p1, p2, p3, p4, p5, p6, p7, p8, p9⟩⟩ := HF.out
      exact hK.out (x3, x4, x5, x6, .pointer (some ⟨R, 0, none⟩), x8, x9, x10, x11, x12, x13, x14, x15, x16, x17, x18, x19, x20) _ ⟨hS, ⟨(fun h => f0 (upd_ne h (by decide))), (fun h => f2 (upd_ne h (by decide))), (fun _ => rfl), (fun h => f6 (upd_ne h (by decide))), (fun h => f7 (upd_ne h (by decide))), (fun h => f9 (upd_ne h (by decide))), (fun h => f10 (upd_ne h (by decide))), (fun h => f11 (upd_ne h (by decide))), (fun h => f13 (upd_ne h (by decide))), (fun h => f15 (upd_ne h (by decide)))⟩, j, hj, ⟨((upd_no (by decide)).trans dd1), ((upd_no (by decide)).trans dd3), ((upd_no (by decide)).trans dd5), ((upd_no (by decide)).trans dd8), ((upd_no (by decide)).trans dd12), ((upd_no (by decide)).trans dd14), ((upd_no (by decide)).trans dd16), ((upd_no (by decide)).trans dd17), ((upd_no (by decide)).trans dd18)⟩, ⟨p0, p1, p2, p3, p4, p5, p6, p7, p8, p9⟩⟩
    · rintro d ⟨x3, x4, x5, x6, x7, x8, x9, x10, x11, x12, x13, x14, x15, x16, x17, x18, x19, x20⟩ w' hI hd hdp K hK
      dsimp only at hI
      obtain ⟨hS, ⟨f0, f2, f4, f6, f7, f9, f10, f11, f13, f15⟩, j, hj, ⟨dd1, dd3, dd5, dd8, dd12, dd14, dd16, dd17, dd18⟩, ⟨p0, p1, p2, p3, p4, p5, p6, p7, p8, p9⟩⟩ := hI
      obtain rfl := f4 (hdp 4 (by decide +kernel))
      obtain rfl := ph_eq (k := 1) dd5 hd dd3 (hdp 3 (by decide +kernel))
      have s := p2 rfl
      clear p0 p1 p2 p3 p4 p5 p6 p7 p8 p9 hj
      obtain ⟨F, T, t, a1, n1, m1, a2, n2, m2, ⟨e4, iF, iT⟩, ⟨e6, wt, it, et1, et2⟩, z, G⟩ := s
      have kk := gint B R l w' _ _ G.ps
      have HG : Hid _ := (And.intro hS (And.intro e4 (And.intro iF (And.intro iT (And.intro e6 (And.intro wt (And.intro it (And.intro et1 (And.intro et2 (And.intro z G))))))))))
      clear hS e4 iF iT e6 wt it et1 et2 z G
      have HF : Hid _ := And.intro (And.intro f0 (And.intro f2 (And.intro f4 (And.intro f6 (And.intro f7 (And.intro f9 (And.intro f10 (And.intro f11 (And.intro f13 f15))))))))) (And.intro dd1 (And.intro dd3 (And.intro dd5 (And.intro dd8 (And.intro dd12 (And.intro dd14 (And.intro dd16 (And.intro dd17 dd18))))))))
      clear f0 f2 f4 f6 f7 f9 f10 f11 f13 f15 dd1 dd3 dd5 dd8 dd12 dd14 dd16 dd17 dd18 hdp hd
      refine Opn.mk ?_
      dsimp only
      go_simp
      go_wp2_with (first | (go_at_call 93; with_reducible refine kk.mono ?_; rintro e5 w5 ⟨g, rfl, ig, G5⟩))
      obtain ⟨hS, e4, iF, iT, e6, wt, it, et1, et2, z, G⟩ := HG.out
      obtain ⟨⟨f0, f2, f4, f6, f7, f9, f10, f11, f13, f15⟩, ⟨dd1, dd3, dd5, dd8, dd12, dd14, dd16, dd17, dd18⟩⟩ := HF.out
      refine hK.out (x3, x4, x5, x6, .pointer (some ⟨R, 0, none⟩), .int .i64 g, x9, x10, x11, x12, x13, x14, x15, x16, x17, x18, x19, x20) _ ⟨?sg, ⟨(fun h => f0 (upd_ne h (by decide))), (fun h => f2 (upd_ne h (by decide))), (fun _ => rfl), (fun h => f6 (upd_ne h (by decide))), (fun h => f7 (upd_ne h (by decide))), (fun h => f9 (upd_ne h (by decide))), (fun h => f10 (upd_ne h (by decide))), (fun h => f11 (upd_ne h (by decide))), (fun h => f13 (upd_ne h (by decide))), (fun h => f15 (upd_ne h (by decide)))⟩, 3, by decide, ⟨((upd_no (by decide)).trans (dd1.trans (by decide))), ((upd_no (by decide)).trans (dd3.trans (by decide))), (by simp [upd]), ((upd_no (by decide)).trans (dd8.trans (by decide))), ((upd_no (by decide)).trans (dd12.trans (by decide))), ((upd_no (by decide)).trans (dd14.trans (by decide))), ((upd_no (by decide)).trans (dd16.trans (by decide))), ((upd_no (by decide)).trans (dd17.trans (by decide))), ((upd_no (by decide)).trans (dd18.trans (by decide)))⟩, ⟨(fun h => absurd h (by decide)), (fun h => absurd h (by decide)), (fun h => absurd h (by decide)), (fun _ => ?new), (fun h => absurd h (by decide)), (fun h => absurd h (by decide)), (fun h => absurd h (by decide)), (fun h => absurd h (by decide)), (fun h => absurd h (by decide)), (fun h => absurd h (by decide))⟩⟩
      case sg => exact BxA.grow hS G5.g (by omega)
      case new =>
        have KR := PS.ktt G.ps G5.g
        have GC := Got.comp2 hple ((fwd_span l).comp (fwd_fil l kd)) (fwd_u l) G G5
        exact ⟨F, T, t, a1, n1, m1, a2, n2, m2, g, ⟨e4, iF, iT⟩, ⟨e6, wt.grow G5.g (by omega), it, et1, et2⟩, ⟨rfl, ig⟩, BxA.grow z G5.g (by omega), GC⟩
    · rintro d ⟨x3, x4, x5, x6, x7, x8, x9, x10, x11, x12, x13, x14, x15, x16, x17, x18, x19, x20⟩ w' hI hd hdp K hK
      dsimp only at hI
      obtain ⟨hS, ⟨f0, f2, f4, f6, f7, f9, f10, f11, f13, f15⟩, j, hj, ⟨dd1, dd3, dd5, dd8, dd12, dd14, dd16, dd17, dd18⟩, ⟨p0, p1, p2, p3, p4, p5, p6, p7, p8, p9⟩⟩ := hI
      have c0 : w'.cell? ⟨w.heap.size, 0, none⟩ = some (.pointer (some ⟨R, 0, none⟩)) := BxA.cell hS 0 _ rfl
      have HF : Hid _ := And.intro hS (And.intro (And.intro f0 (And.intro f2 (And.intro f4 (And.intro f6 (And.intro f7 (And.intro f9 (And.intro f10 (And.intro f11 (And.intro f13 f15))))))))) (And.intro hj (And.intro (And.intro dd1 (And.intro dd3 (And.intro dd5 (And.intro dd8 (And.intro dd12 (And.intro dd14 (And.intro dd16 (And.intro dd17 dd18)))))))) (And.intro p0 (And.intro p1 (And.intro p2 (And.intro p3 (And.intro p4 (And.intro p5 (And.intro p6 (And.intro p7 (And.intro p8 p9))))))))))))
      clear hS f0 f2 f4 f6 f7 f9 f10 f11 f13 f15 hj dd1 dd3 dd5 dd8 dd12 dd14 dd16 dd17 dd18 p0 p1 p2 p3 p4 p5 p6 p7 p8 p9 hdp hd
      refine Opn.mk ?_
      dsimp only
      go_simp
      obtain ⟨hS, ⟨f0, f2, f4, f6, f7, f9, f10, f11, f13, f15⟩, hj, ⟨dd1, dd3, dd5, dd8, dd12, dd14, dd16, dd17, dd18⟩, ⟨p0, p1, p2, p3, p4, p5, p6, p7, p8, p9⟩⟩ := HF.out
      exact hK.out (x3, x4, x5, x6, x7, x8, .pointer (some ⟨R, 0, none⟩), x10, x11, x12, x13, x14, x15, x16, x17, x18, x19, x20) _ ⟨hS, ⟨(fun h => f0 (upd_ne h (by decide))), (fun h => f2 (upd_ne h (by decide))), (fun h => f4 (upd_ne h (by decide))), (fun _ => rfl), (fun h => f7 (upd_ne h (by decide))), (fun h => f9 (upd_ne h (by decide))), (fun h => f10 (upd_ne h (by decide))), (fun h => f11 (upd_ne h (by decide))), (fun h => f13 (upd_ne h (by decide))), (fun h => f15 (upd_ne h (by decide)))⟩, j, hj, ⟨((upd_no (by decide)).trans dd1), ((upd_no (by decide)).trans dd3), ((upd_no (by decide)).trans dd5), ((upd_no (by decide)).trans dd8), ((upd_no (by decide)).trans dd12), ((upd_no (by decide)).trans dd14), ((upd_no (by decide)).trans dd16), ((upd_no (by decide)).trans dd17), ((upd_no (by decide)).trans dd18)⟩, ⟨p0, p1, p2, p3, p4, p5, p6, p7, p8, p9⟩⟩
    · rintro d ⟨x3, x4, x5, x6, x7, x8, x9, x10, x11, x12, x13, x14, x15, x16, x17, x18, x19, x20⟩ w' hI hd hdp K hK
      dsimp only at hI
      obtain ⟨hS, ⟨f0, f2, f4, f6, f7, f9, f10, f11, f13, f15⟩, j, hj, ⟨dd1, dd3, dd5, dd8, dd12, dd14, dd16, dd17, dd18⟩, ⟨p0, p1, p2, p3, p4, p5, p6, p7, p8, p9⟩⟩ := hI
      have HF : Hid _ := And.intro hS (And.intro (And.intro f0 (And.intro f2 (And.intro f4 (And.intro f6 (And.intro f7 (And.intro f9 (And.intro f10 (And.intro f11 (And.intro f13 f15))))))))) (And.intro hj (And.intro (And.intro dd1 (And.intro dd3 (And.intro dd5 (And.intro dd8 (And.intro dd12 (And.intro dd14 (And.intro dd16 (And.intro dd17 dd18)))))))) (And.intro p0 (And.intro p1 (And.intro p2 (And.intro p3 (And.intro p4 (And.intro p5 (And.intro p6 (And.intro p7 (And.intro p8 p9))))))))))))
      clear hS f0 f2 f4 f6 f7 f9 f10 f11 f13 f15 hj dd1 dd3 dd5 dd8 dd12 dd14 dd16 dd17 dd18 p0 p1 p2 p3 p4 p5 p6 p7 p8 p9 hdp hd
      refine Opn.mk ?_
      dsimp only
      go_simp
      obtain ⟨hS, ⟨f0, f2, f4, f6, f7, f9, f10, f11, f13, f15⟩, hj, ⟨dd1, dd3, dd5, dd8, dd12, dd14, dd16, dd17, dd18⟩, ⟨p0, p1, p2, p3, p4, p5, p6, p7, p8, p9⟩⟩ := HF.out
      exact hK.out (x3, x4, x5, x6, x7, x8, x9, .func (.func 101) #[] #[.pointer (some ⟨w.heap.size, 0, none⟩)], x11, x12, x13, x14, x15, x16, x17, x18, x19, x20) _ ⟨hS, ⟨(fun h => f0 (upd_ne h (by decide))), (fun h => f2 (upd_ne h (by decide))), (fun h => f4 (upd_ne h (by decide))), (fun h => f6 (upd_ne h (by decide))), (fun _ => rfl), (fun h => f9 (upd_ne h (by decide))), (fun h => f10 (upd_ne h (by decide))), (fun h => f11 (upd_ne h (by decide))), (fun h => f13 (upd_ne h (by decide))), (fun h => f15 (upd_ne h (by decide)))⟩, j, hj, ⟨((upd_no (by decide)).trans dd1), ((upd_no (by decide)).trans dd3), ((upd_no (by decide)).trans dd5), ((upd_no (by decide)).trans dd8), ((upd_no (by decide)).trans dd12), ((upd_no (by decide)).trans dd14), ((upd_no (by decide)).trans dd16), ((upd_no (by decide)).trans dd17), ((upd_no (by decide)).trans dd18)⟩, ⟨p0, p1, p2, p3, p4, p5, p6, p7, p8, p9⟩⟩
    · rintro d ⟨x3, x4, x5, x6, x7, x8, x9, x10, x11, x12, x13, x14, x15, x16, x17, x18, x19, x20⟩ w' hI hd hdp K hK
      dsimp only at hI
      obtain ⟨hS, ⟨f0, f2, f4, f6, f7, f9, f10, f11, f13, f15⟩, j, hj, ⟨dd1, dd3, dd5, dd8, dd12, dd14, dd16, dd17, dd18⟩, ⟨p0, p1, p2, p3, p4, p5, p6, p7, p8, p9⟩⟩ := hI
      obtain rfl := f6 (hdp 6 (by decide +kernel))
      obtain rfl := f7 (hdp 7 (by decide +kernel))
      obtain rfl := ph_eq (k := 2) dd8 hd dd5 (hdp 5 (by decide +kernel))
      have s := p3 rfl
      clear p0 p1 p2 p3 p4 p5 p6 p7 p8 p9 hj
      obtain ⟨F, T, t, a1, n1, m1, a2, n2, m2, g, ⟨e4, iF, iT⟩, ⟨e6, wt, it, et1, et2⟩, ⟨e8, ig⟩, z, G⟩ := s
      have kk := gsets B R l w' w.heap.size _ _ hlb hS G.ps
      have HG : Hid _ := (And.intro hS (And.intro e4 (And.intro iF (And.intro iT (And.intro e6 (And.intro wt (And.intro it (And.intro et1 (And.intro et2 (And.intro e8 (And.intro ig (And.intro z G))))))))))))
      clear hS e4 iF iT e6 wt it et1 et2 e8 ig z G
      have HF : Hid _ := And.intro (And.intro f0 (And.intro f2 (And.intro f4 (And.intro f6 (And.intro f7 (And.intro f9 (And.intro f10 (And.intro f11 (And.intro f13 f15))))))))) (And.intro dd1 (And.intro dd3 (And.intro dd5 (And.intro dd8 (And.intro dd12 (And.intro dd14 (And.intro dd16 (And.intro dd17 dd18))))))))
      clear f0 f2 f4 f6 f7 f9 f10 f11 f13 f15 dd1 dd3 dd5 dd8 dd12 dd14 dd16 dd17 dd18 hdp hd
      refine Opn.mk ?_
      dsimp only
      go_simp
      go_wp2_with (first | (go_at_call 100; with_reducible refine kk.mono ?_; rintro e5 w5 ⟨sv, ss, rfl, os, is, G5⟩))
      obtain ⟨a3, n3, m3, rfl⟩ := own_sl os
      obtain ⟨hS, e4, iF, iT, e6, wt, it, et1, et2, e8, ig, z, G⟩ := HG.out
      obtain ⟨⟨f0, f2, f4, f6, f7, f9, f10, f11, f13, f15⟩, ⟨dd1, dd3, dd5, dd8, dd12, dd14, dd16, dd17, dd18⟩⟩ := HF.out
      refine hK.out (x3, x4, x5, x6, x7, x8, .pointer (some ⟨R, 0, none⟩), .func (.func 101) #[] #[.pointer (some ⟨w.heap.size, 0, none⟩)], .slice a3 n3 m3, x12, x13, x14, x15, x16, x17, x18, x19, x20) _ ⟨?sg, ⟨(fun h => f0 (upd_ne h (by decide))), (fun h => f2 (upd_ne h (by decide))), (fun h => f4 (upd_ne h (by decide))), (fun _ => rfl), (fun _ => rfl), (fun h => f9 (upd_ne h (by decide))), (fun h => f10 (upd_ne h (by decide))), (fun h => f11 (upd_ne h (by decide))), (fun h => f13 (upd_ne h (by decide))), (fun h => f15 (upd_ne h (by decide)))⟩, 4, by decide, ⟨((upd_no (by decide)).trans (dd1.trans (by decide))), ((upd_no (by decide)).trans (dd3.trans (by decide))), ((upd_no (by decide)).trans (dd5.trans (by decide))), (by simp [upd]), ((upd_no (by decide)).trans (dd12.trans (by decide))), ((upd_no (by decide)).trans (dd14.trans (by decide))), ((upd_no (by decide)).trans (dd16.trans (by decide))), ((upd_no (by decide)).trans (dd17.trans (by decide))), ((upd_no (by decide)).trans (dd18.trans (by decide)))⟩, ⟨(fun h => absurd h (by decide)), (fun h => absurd h (by decide)), (fun h => absurd h (by decide)), (fun h => absurd h (by decide)), (fun _ => ?new), (fun h => absurd h (by decide)), (fun h => absurd h (by decide)), (fun h => absurd h (by decide)), (fun h => absurd h (by decide)), (fun h => absurd h (by decide))⟩⟩
      case sg => exact BxA.grow hS G5.g (by omega)
      case new =>
        have KR := PS.ktt G.ps G5.g
        have GC := Got.comp2 hple (((fwd_span l).comp (fwd_fil l kd)).comp (fwd_u l)) (fwd_l (fwd_l (fwd_u l))) G G5
        exact ⟨F, T, t, a1, n1, m1, a2, n2, m2, g, _, _, _, ss, ⟨e4, iF, iT⟩, ⟨e6, wt.grow G5.g (by omega), it, et1, et2⟩, ⟨e8, ig⟩, ⟨rfl, own_mono os (BxA.lt z), fun x hx => (is x hx).mono (BxA.lt z)⟩, BxA.grow z G5.g (by omega), GC⟩
    · rintro d ⟨x3, x4, x5, x6, x7, x8, x9, x10, x11, x12, x13, x14, x15, x16, x17, x18, x19, x20⟩ w' hI hd hdp K hK
      dsimp only at hI
      obtain ⟨hS, ⟨f0, f2, f4, f6, f7, f9, f10, f11, f13, f15⟩, j, hj, ⟨dd1, dd3, dd5, dd8, dd12, dd14, dd16, dd17, dd18⟩, ⟨p0, p1, p2, p3, p4, p5, p6, p7, p8, p9⟩⟩ := hI
      have c0 : w'.cell? ⟨w.heap.size, 0, none⟩ = some (.pointer (some ⟨R, 0, none⟩)) := BxA.cell hS 0 _ rfl
      have HF : Hid _ := And.intro hS (And.intro (And.intro f0 (And.intro f2 (And.intro f4 (And.intro f6 (And.intro f7 (And.intro f9 (And.intro f10 (And.intro f11 (And.intro f13 f15))))))))) (And.intro hj (And.intro (And.intro dd1 (And.intro dd3 (And.intro dd5 (And.intro dd8 (And.intro dd12 (And.intro dd14 (And.intro dd16 (And.intro dd17 dd18)))))))) (And.intro p0 (And.intro p1 (And.intro p2 (And.intro p3 (And.intro p4 (And.intro p5 (And.intro p6 (And.intro p7 (And.intro p8 p9))))))))))))
      clear hS f0 f2 f4 f6 f7 f9 f10 f11 f13 f15 hj dd1 dd3 dd5 dd8 dd12 dd14 dd16 dd17 dd18 p0 p1 p2 p3 p4 p5 p6 p7 p8 p9 hdp hd
      refine Opn.mk ?_
      dsimp only
      go_simp
      obtain ⟨hS, ⟨f0, f2, f4, f6, f7, f9, f10, f11, f13, f15⟩, hj, ⟨dd1, dd3, dd5, dd8, dd12, dd14, dd16, dd17, dd18⟩, ⟨p0, p1, p2, p3, p4, p5, p6, p7, p8, p9⟩⟩ := HF.out
      exact hK.out (x3, x4, x5, x6, x7, x8, x9, x10, x11, .pointer (some ⟨R, 0, none⟩), x13, x14, x15, x16, x17, x18, x19, x20) _ ⟨hS, ⟨(fun h => f0 (upd_ne h (by decide))), (fun h => f2 (upd_ne h (by decide))), (fun h => f4 (upd_ne h (by decide))), (fun h => f6 (upd_ne h (by decide))), (fun h => f7 (upd_ne h (by decide))), (fun _ => rfl), (fun h => f10 (upd_ne h (by decide))), (fun h => f11 (upd_ne h (by decide))), (fun h => f13 (upd_ne h (by decide))), (fun h => f15 (upd_ne h (by decide)))⟩, j, hj, ⟨((upd_no (by decide)).trans dd1), ((upd_no (by decide)).trans dd3), ((upd_no (by decide)).trans dd5), ((upd_no (by decide)).trans dd8), ((upd_no (by decide)).trans dd12), ((upd_no (by decide)).trans dd14), ((upd_no (by decide)).trans dd16), ((upd_no (by decide)).trans dd17), ((upd_no (by decide)).trans dd18)⟩, ⟨p0, p1, p2, p3, p4, p5, p6, p7, p8, p9⟩⟩
    · rintro d ⟨x3, x4, x5, x6, x7, x8, x9, x10, x11, x12, x13, x14, x15, x16, x17, x18, x19, x20⟩ w' hI hd hdp K hK
      dsimp only at hI
      obtain ⟨hS, ⟨f0, f2, f4, f6, f7, f9, f10, f11, f13, f15⟩, j, hj, ⟨dd1, dd3, dd5, dd8, dd12, dd14, dd16, dd17, dd18⟩, ⟨p0, p1, p2, p3, p4, p5, p6, p7, p8, p9⟩⟩ := hI
      have c0 : w'.cell? ⟨w.heap.size, 0, none⟩ = some (.pointer (some ⟨R, 0, none⟩)) := BxA.cell hS 0 _ rfl
      have HF : Hid _ := And.intro hS (And.intro (And.intro f0 (And.intro f2 (And.intro f4 (And.intro f6 (And.intro f7 (And.intro f9 (And.intro f10 (And.intro f11 (And.intro f13 f15))))))))) (And.intro hj (And.intro (And.intro dd1 (And.intro dd3 (And.intro dd5 (And.intro dd8 (And.intro dd12 (And.intro dd14 (And.intro dd16 (And.intro dd17 dd18)))))))) (And.intro p0 (And.intro p1 (And.intro p2 (And.intro p3 (And.intro p4 (And.intro p5 (And.intro p6 (And.intro p7 (And.intro p8 p9))))))))))))
      clear hS f0 f2 f4 f6 f7 f9 f10 f11 f13 f15 hj dd1 dd3 dd5 dd8 dd12 dd14 dd16 dd17 dd18 p0 p1 p2 p3 p4 p5 p6 p7 p8 p9 hdp hd
      refine Opn.mk ?_
      dsimp only
      go_simp
      obtain ⟨hS, ⟨f0, f2, f4, f6, f7, f9, f10, f11, f13, f15⟩, hj, ⟨dd1, dd3, dd5, dd8, dd12, dd14, dd16, dd17, dd18⟩, ⟨p0, p1, p2, p3, p4, p5, p6, p7, p8, p9⟩⟩ := HF.out
      exact hK.out (x3, x4, x5, x6, x7, x8, x9, x10, x11, x12, .pointer (some ⟨R, 0, none⟩), x14, x15, x16, x17, x18, x19, x20) _ ⟨hS, ⟨(fun h => f0 (upd_ne h (by decide))), (fun h => f2 (upd_ne h (by decide))), (fun h => f4 (upd_ne h (by decide))), (fun h => f6 (upd_ne h (by decide))), (fun h => f7 (upd_ne h (by decide))), (fun h => f9 (upd_ne h (by decide))), (fun _ => rfl), (fun h => f11 (upd_ne h (by decide))), (fun h => f13 (upd_ne h (by decide))), (fun h => f15 (upd_ne h (by decide)))⟩, j, hj, ⟨((upd_no (by decide)).trans dd1), ((upd_no (by decide)).trans dd3), ((upd_no (by decide)).trans dd5), ((upd_no (by decide)).trans dd8), ((upd_no (by decide)).trans dd12), ((upd_no (by decide)).trans dd14), ((upd_no (by decide)).trans dd16), ((upd_no (by decide)).trans dd17), ((upd_no (by decide)).trans dd18)⟩, ⟨p0, p1, p2, p3, p4, p5, p6, p7, p8, p9⟩⟩
    · rintro d ⟨x3, x4, x5, x6, x7, x8, x9, x10, x11, x12, x13, x14, x15, x16, x17, x18, x19, x20⟩ w' hI hd hdp K hK
      dsimp only at hI
      obtain ⟨hS, ⟨f0, f2, f4, f6, f7, f9, f10, f11, f13, f15⟩, j, hj, ⟨dd1, dd3, dd5, dd8, dd12, dd14, dd16, dd17, dd18⟩, ⟨p0, p1, p2, p3, p4, p5, p6, p7, p8, p9⟩⟩ := hI
      obtain rfl := f10 (hdp 10 (by decide +kernel))
      have HF : Hid _ := And.intro hS (And.intro (And.intro f0 (And.intro f2 (And.intro f4 (And.intro f6 (And.intro f7 (And.intro f9 (And.intro f10 (And.intro f11 (And.intro f13 f15))))))))) (And.intro hj (And.intro (And.intro dd1 (And.intro dd3 (And.intro dd5 (And.intro dd8 (And.intro dd12 (And.intro dd14 (And.intro dd16 (And.intro dd17 dd18)))))))) (And.intro p0 (And.intro p1 (And.intro p2 (And.intro p3 (And.intro p4 (And.intro p5 (And.intro p6 (And.intro p7 (And.intro p8 p9))))))))))))
      clear hS f0 f2 f4 f6 f7 f9 f10 f11 f13 f15 hj dd1 dd3 dd5 dd8 dd12 dd14 dd16 dd17 dd18 p0 p1 p2 p3 p4 p5 p6 p7 p8 p9 hdp hd
      refine Opn.mk ?_
      dsimp only
      go_simp
      obtain ⟨hS, ⟨f0, f2, f4, f6, f7, f9, f10, f11, f13, f15⟩, hj, ⟨dd1, dd3, dd5, dd8, dd12, dd14, dd16, dd17, dd18⟩, ⟨p0, p1, p2, p3, p4, p5, p6, p7, p8, p9⟩⟩ := HF.out
      exact hK.out (x3, x4, x5, x6, x7, x8, x9, x10, x11, x12, .pointer (some ⟨R, 0, none⟩), .func (.func 104) #[.pointer (some ⟨R, 0, none⟩)] #[], x15, x16, x17, x18, x19, x20) _ ⟨hS, ⟨(fun h => f0 (upd_ne h (by decide))), (fun h => f2 (upd_ne h (by decide))), (fun h => f4 (upd_ne h (by decide))), (fun h => f6 (upd_ne h (by decide))), (fun h => f7 (upd_ne h (by decide))), (fun h => f9 (upd_ne h (by decide))), (fun _ => rfl), (fun _ => rfl), (fun h => f13 (upd_ne h (by decide))), (fun h => f15 (upd_ne h (by decide)))⟩, j, hj, ⟨((upd_no (by decide)).trans dd1), ((upd_no (by decide)).trans dd3), ((upd_no (by decide)).trans dd5), ((upd_no (by decide)).trans dd8), ((upd_no (by decide)).trans dd12), ((upd_no (by decide)).trans dd14), ((upd_no (by decide)).trans dd16), ((upd_no (by decide)).trans dd17), ((upd_no (by decide)).trans dd18)⟩, ⟨p0, p1, p2, p3, p4, p5, p6, p7, p8, p9⟩⟩
    · rintro d ⟨x3, x4, x5, x6, x7, x8, x9, x10, x11, x12, x13, x14, x15, x16, x17, x18, x19, x20⟩ w' hI hd hdp K hK
      dsimp only at hI
      obtain ⟨hS, ⟨f0, f2, f4, f6, f7, f9, f10, f11, f13, f15⟩, j, hj, ⟨dd1, dd3, dd5, dd8, dd12, dd14, dd16, dd17, dd18⟩, ⟨p0, p1, p2, p3, p4, p5, p6, p7, p8, p9⟩⟩ := hI
      obtain rfl := f9 (hdp 9 (by decide +kernel))
      obtain rfl := f11 (hdp 11 (by decide +kernel))
      obtain rfl := ph_eq (k := 3) dd12 hd dd8 (hdp 8 (by decide +kernel))
      have s := p4 rfl
      clear p0 p1 p2 p3 p4 p5 p6 p7 p8 p9 hj
      obtain ⟨F, T, t, a1, n1, m1, a2, n2, m2, g, a3, n3, m3, ss, ⟨e4, iF, iT⟩, ⟨e6, wt, it, et1, et2⟩, ⟨e8, ig⟩, ⟨e11, os, is⟩, z, G⟩ := s
      have kk := gaggs B R l w' _ _ hlb G.ps
      have HG : Hid _ := (And.intro hS (And.intro e4 (And.intro iF (And.intro iT (And.intro e6 (And.intro wt (And.intro it (And.intro et1 (And.intro et2 (And.intro e8 (And.intro ig (And.intro e11 (And.intro os (And.intro is (And.intro z G)))))))))))))))
      clear hS e4 iF iT e6 wt it et1 et2 e8 ig e11 os is z G
      have HF : Hid _ := And.intro (And.intro f0 (And.intro f2 (And.intro f4 (And.intro f6 (And.intro f7 (And.intro f9 (And.intro f10 (And.intro f11 (And.intro f13 f15))))))))) (And.intro dd1 (And.intro dd3 (And.intro dd5 (And.intro dd8 (And.intro dd12 (And.intro dd14 (And.intro dd16 (And.intro dd17 dd18))))))))
      clear f0 f2 f4 f6 f7 f9 f10 f11 f13 f15 dd1 dd3 dd5 dd8 dd12 dd14 dd16 dd17 dd18 hdp hd
      refine Opn.mk ?_
      dsimp only
      go_simp
      go_wp2_with (first | (go_at_call 103; with_reducible refine kk.mono ?_; rintro e5 w5 ⟨av, ag, rfl, oa, ia, G5⟩))
      obtain ⟨a4, n4, m4, rfl⟩ := own_sl oa
      obtain ⟨hS, e4, iF, iT, e6, wt, it, et1, et2, e8, ig, e11, os, is, z, G⟩ := HG.out
      obtain ⟨⟨f0, f2, f4, f6, f7, f9, f10, f11, f13, f15⟩, ⟨dd1, dd3, dd5, dd8, dd12, dd14, dd16, dd17, dd18⟩⟩ := HF.out
      refine hK.out (x3, x4, x5, x6, x7, x8, x9, x10, x11, .pointer (some ⟨R, 0, none⟩), x13, .func (.func 104) #[.pointer (some ⟨R, 0, none⟩)] #[], .slice a4 n4 m4, x16, x17, x18, x19, x20) _ ⟨?sg, ⟨(fun h => f0 (upd_ne h (by decide))), (fun h => f2 (upd_ne h (by decide))), (fun h => f4 (upd_ne h (by decide))), (fun h => f6 (upd_ne h (by decide))), (fun h => f7 (upd_ne h (by decide))), (fun _ => rfl), (fun h => f10 (upd_ne h (by decide))), (fun _ => rfl), (fun h => f13 (upd_ne h (by decide))), (fun h => f15 (upd_ne h (by decide)))⟩, 5, by decide, ⟨((upd_no (by decide)).trans (dd1.trans (by decide))), ((upd_no (by decide)).trans (dd3.trans (by decide))), ((upd_no (by decide)).trans (dd5.trans (by decide))), ((upd_no (by decide)).trans (dd8.trans (by decide))), (by simp [upd]), ((upd_no (by decide)).trans (dd14.trans (by decide))), ((upd_no (by decide)).trans (dd16.trans (by decide))), ((upd_no (by decide)).trans (dd17.trans (by decide))), ((upd_no (by decide)).trans (dd18.trans (by decide)))⟩, ⟨(fun h => absurd h (by decide)), (fun h => absurd h (by decide)), (fun h => absurd h (by decide)), (fun h => absurd h (by decide)), (fun h => absurd h (by decide)), (fun _ => ?new), (fun h => absurd h (by decide)), (fun h => absurd h (by decide)), (fun h => absurd h (by decide)), (fun h => absurd h (by decide))⟩⟩
      case sg => exact BxA.grow hS G5.g (by omega)
      case new =>
        have KR := PS.ktt G.ps G5.g
        have GC := Got.comp2 hple ((((fwd_span l).comp (fwd_fil l kd)).comp (fwd_u l)).comp (fwd_l (fwd_l (fwd_u l)))) (fwd_l (fwd_agg l)) G G5
        exact ⟨F, T, t, a1, n1, m1, a2, n2, m2, g, a3, n3, m3, ss, _, _, _, ag, ⟨e4, iF, iT⟩, ⟨e6, wt.grow G5.g (by omega), it, et1, et2⟩, ⟨e8, ig⟩, ⟨e11, KR.own os (by decide), fun x hx => (is x hx).keep KR (by decide)⟩, ⟨rfl, own_mono oa (BxA.lt z), ia⟩, BxA.grow z G5.g (by omega), GC⟩
    · rintro d ⟨x3, x4, x5, x6, x7, x8, x9, x10, x11, x12, x13, x14, x15, x16, x17, x18, x19, x20⟩ w' hI hd hdp K hK
      dsimp only at hI
      obtain ⟨hS, ⟨f0, f2, f4, f6, f7, f9, f10, f11, f13, f15⟩, j, hj, ⟨dd1, dd3, dd5, dd8, dd12, dd14, dd16, dd17, dd18⟩, ⟨p0, p1, p2, p3, p4, p5, p6, p7, p8, p9⟩⟩ := hI
      have c0 : w'.cell? ⟨w.heap.size, 0, none⟩ = some (.pointer (some ⟨R, 0, none⟩)) := BxA.cell hS 0 _ rfl
      have HF : Hid _ := And.intro hS (And.intro (And.intro f0 (And.intro f2 (And.intro f4 (And.intro f6 (And.intro f7 (And.intro f9 (And.intro f10 (And.intro f11 (And.intro f13 f15))))))))) (And.intro hj (And.intro (And.intro dd1 (And.intro dd3 (And.intro dd5 (And.intro dd8 (And.intro dd12 (And.intro dd14 (And.intro dd16 (And.intro dd17 dd18)))))))) (And.intro p0 (And.intro p1 (And.intro p2 (And.intro p3 (And.intro p4 (And.intro p5 (And.intro p6 (And.intro p7 (And.intro p8 p9))))))))))))
      clear hS f0 f2 f4 f6 f7 f9 f10 f11 f13 f15 hj dd1 dd3 dd5 dd8 dd12 dd14 dd16 dd17 dd18 p0 p1 p2 p3 p4 p5 p6 p7 p8 p9 hdp hd
      refine Opn.mk ?_
      dsimp only
      go_simp
      obtain ⟨hS, ⟨f0, f2, f4, f6, f7, f9, f10, f11, f13, f15⟩, hj, ⟨dd1, dd3, dd5, dd8, dd12, dd14, dd16, dd17, dd18⟩, ⟨p0, p1, p2, p3, p4, p5, p6, p7, p8, p9⟩⟩ := HF.out
      exact hK.out (x3, x4, x5, x6, x7, x8, x9, x10, x11, x12, x13, x14, x15, .pointer (some ⟨R, 0, none⟩), x17, x18, x19, x20) _ ⟨hS, ⟨(fun h => f0 (upd_ne h (by decide))), (fun h => f2 (upd_ne h (by decide))), (fun h => f4 (upd_ne h (by decide))), (fun h => f6 (upd_ne h (by decide))), (fun h => f7 (upd_ne h (by decide))), (fun h => f9 (upd_ne h (by decide))), (fun h => f10 (upd_ne h (by decide))), (fun h => f11 (upd_ne h (by decide))), (fun _ => rfl), (fun h => f15 (upd_ne h (by decide)))⟩, j, hj, ⟨((upd_no (by decide)).trans dd1), ((upd_no (by decide)).trans dd3), ((upd_no (by decide)).trans dd5), ((upd_no (by decide)).trans dd8), ((upd_no (by decide)).trans dd12), ((upd_no (by decide)).trans dd14), ((upd_no (by decide)).trans dd16), ((upd_no (by decide)).trans dd17), ((upd_no (by decide)).trans dd18)⟩, ⟨p0, p1, p2, p3, p4, p5, p6, p7, p8, p9⟩⟩
    · rintro d ⟨x3, x4, x5, x6, x7, x8, x9, x10, x11, x12, x13, x14, x15, x16, x17, x18, x19, x20⟩ w' hI hd hdp K hK
      dsimp only at hI
      obtain ⟨hS, ⟨f0, f2, f4, f6, f7, f9, f10, f11, f13, f15⟩, j, hj, ⟨dd1, dd3, dd5, dd8, dd12, dd14, dd16, dd17, dd18⟩, ⟨p0, p1, p2, p3, p4, p5, p6, p7, p8, p9⟩⟩ := hI
      obtain rfl := f13 (hdp 13 (by decide +kernel))
      obtain rfl := ph_eq (k := 4) dd14 hd dd12 (hdp 12 (by decide +kernel))
      have s := p5 rfl
      clear p0 p1 p2 p3 p4 p5 p6 p7 p8 p9 hj
      obtain ⟨F, T, t, a1, n1, m1, a2, n2, m2, g, a3, n3, m3, ss, a4, n4, m4, ag, ⟨e4, iF, iT⟩, ⟨e6, wt, it, et1, et2⟩, ⟨e8, ig⟩, ⟨e11, os, is⟩, ⟨e15, oa, ia⟩, z, G⟩ := s
      have kk := gwhole B R l w' _ _ G.ps
      have HG : Hid _ := (And.intro hS (And.intro e4 (And.intro iF (And.intro iT (And.intro e6 (And.intro wt (And.intro it (And.intro et1 (And.intro et2 (And.intro e8 (And.intro ig (And.intro e11 (And.intro os (And.intro is (And.intro e15 (And.intro oa (And.intro ia (And.intro z G))))))))))))))))))
      clear hS e4 iF iT e6 wt it et1 et2 e8 ig e11 os is e15 oa ia z G
      have HF : Hid _ := And.intro (And.intro f0 (And.intro f2 (And.intro f4 (And.intro f6 (And.intro f7 (And.intro f9 (And.intro f10 (And.intro f11 (And.intro f13 f15))))))))) (And.intro dd1 (And.intro dd3 (And.intro dd5 (And.intro dd8 (And.intro dd12 (And.intro dd14 (And.intro dd16 (And.intro dd17 dd18))))))))
      clear f0 f2 f4 f6 f7 f9 f10 f11 f13 f15 dd1 dd3 dd5 dd8 dd12 dd14 dd16 dd17 dd18 hdp hd
      refine Opn.mk ?_
      dsimp only
      go_simp
      go_wp2_with (first | (go_at_call 37; with_reducible refine kk.mono ?_; rintro e5 w5 ⟨GR, rfl, iG, G5⟩))
      obtain ⟨hS, e4, iF, iT, e6, wt, it, et1, et2, e8, ig, e11, os, is, e15, oa, ia, z, G⟩ := HG.out
      obtain ⟨⟨f0, f2, f4, f6, f7, f9, f10, f11, f13, f15⟩, ⟨dd1, dd3, dd5, dd8, dd12, dd14, dd16, dd17, dd18⟩⟩ := HF.out
      refine hK.out (x3, x4, x5, x6, x7, x8, x9, x10, x11, x12, x13, x14, x15, .pointer (some ⟨R, 0, none⟩), .int .i64 GR, x18, x19, x20) _ ⟨?sg, ⟨(fun h => f0 (upd_ne h (by decide))), (fun h => f2 (upd_ne h (by decide))), (fun h => f4 (upd_ne h (by decide))), (fun h => f6 (upd_ne h (by decide))), (fun h => f7 (upd_ne h (by decide))), (fun h => f9 (upd_ne h (by decide))), (fun h => f10 (upd_ne h (by decide))), (fun h => f11 (upd_ne h (by decide))), (fun _ => rfl), (fun h => f15 (upd_ne h (by decide)))⟩, 6, by decide, ⟨((upd_no (by decide)).trans (dd1.trans (by decide))), ((upd_no (by decide)).trans (dd3.trans (by decide))), ((upd_no (by decide)).trans (dd5.trans (by decide))), ((upd_no (by decide)).trans (dd8.trans (by decide))), ((upd_no (by decide)).trans (dd12.trans (by decide))), (by simp [upd]), ((upd_no (by decide)).trans (dd16.trans (by decide))), ((upd_no (by decide)).trans (dd17.trans (by decide))), ((upd_no (by decide)).trans (dd18.trans (by decide)))⟩, ⟨(fun h => absurd h (by decide)), (fun h => absurd h (by decide)), (fun h => absurd h (by decide)), (fun h => absurd h (by decide)), (fun h => absurd h (by decide)), (fun h => absurd h (by decide)), (fun _ => ?new), (fun h => absurd h (by decide)), (fun h => absurd h (by decide)), (fun h => absurd h (by decide))⟩⟩
      case sg => exact BxA.grow hS G5.g (by omega)
      case new =>
        have KR := PS.ktt G.ps G5.g
        have GC := Got.comp2 hple (((((fwd_span l).comp (fwd_fil l kd)).comp (fwd_u l)).comp (fwd_l (fwd_l (fwd_u l)))).comp (fwd_l (fwd_agg l))) (fwd_u l) G G5
        exact ⟨F, T, t, a1, n1, m1, a2, n2, m2, g, a3, n3, m3, ss, a4, n4, m4, ag, GR, ⟨e4, iF, iT⟩, ⟨e6, wt.grow G5.g (by omega), it, et1, et2⟩, ⟨e8, ig⟩, ⟨e11, KR.own os (by decide), fun x hx => (is x hx).keep KR (by decide)⟩, ⟨e15, KR.own oa (by decide), ia⟩, ⟨rfl, iG⟩, BxA.grow z G5.g (by omega), GC⟩
    · rintro d ⟨x3, x4, x5, x6, x7, x8, x9, x10, x11, x12, x13, x14, x15, x16, x17, x18, x19, x20⟩ w' hI hd hdp K hK
      dsimp only at hI
      obtain ⟨hS, ⟨f0, f2, f4, f6, f7, f9, f10, f11, f13, f15⟩, j, hj, ⟨dd1, dd3, dd5, dd8, dd12, dd14, dd16, dd17, dd18⟩, ⟨p0, p1, p2, p3, p4, p5, p6, p7, p8, p9⟩⟩ := hI
      have c0 : w'.cell? ⟨w.heap.size, 0, none⟩ = some (.pointer (some ⟨R, 0, none⟩)) := BxA.cell hS 0 _ rfl
      have HF : Hid _ := And.intro hS (And.intro (And.intro f0 (And.intro f2 (And.intro f4 (And.intro f6 (And.intro f7 (And.intro f9 (And.intro f10 (And.intro f11 (And.intro f13 f15))))))))) (And.intro hj (And.intro (And.intro dd1 (And.intro dd3 (And.intro dd5 (And.intro dd8 (And.intro dd12 (And.intro dd14 (And.intro dd16 (And.intro dd17 dd18)))))))) (And.intro p0 (And.intro p1 (And.intro p2 (And.intro p3 (And.intro p4 (And.intro p5 (And.intro p6 (And.intro p7 (And.intro p8 p9))))))))))))
      clear hS f0 f2 f4 f6 f7 f9 f10 f11 f13 f15 hj dd1 dd3 dd5 dd8 dd12 dd14 dd16 dd17 dd18 p0 p1 p2 p3 p4 p5 p6 p7 p8 p9 hdp hd
      refine Opn.mk ?_
      dsimp only
      go_simp
      obtain ⟨hS, ⟨f0, f2, f4, f6, f7, f9, f10, f11, f13, f15⟩, hj, ⟨dd1, dd3, dd5, dd8, dd12, dd14, dd16, dd17, dd18⟩, ⟨p0, p1, p2, p3, p4, p5, p6, p7, p8, p9⟩⟩ := HF.out
      exact hK.out (x3, x4, x5, x6, x7, x8, x9, x10, x11, x12, x13, x14, x15, x16, x17, .pointer (some ⟨R, 0, none⟩), x19, x20) _ ⟨hS, ⟨(fun h => f0 (upd_ne h (by decide))), (fun h => f2 (upd_ne h (by decide))), (fun h => f4 (upd_ne h (by decide))), (fun h => f6 (upd_ne h (by decide))), (fun h => f7 (upd_ne h (by decide))), (fun h => f9 (upd_ne h (by decide))), (fun h => f10 (upd_ne h (by decide))), (fun h => f11 (upd_ne h (by decide))), (fun h => f13 (upd_ne h (by decide))), (fun _ => rfl)⟩, j, hj, ⟨((upd_no (by decide)).trans dd1), ((upd_no (by decide)).trans dd3), ((upd_no (by decide)).trans dd5), ((upd_no (by decide)).trans dd8), ((upd_no (by decide)).trans dd12), ((upd_no (by decide)).trans dd14), ((upd_no (by decide)).trans dd16), ((upd_no (by decide)).trans dd17), ((upd_no (by decide)).trans dd18)⟩, ⟨p0, p1, p2, p3, p4, p5, p6, p7, p8, p9⟩⟩
    · rintro d ⟨x3, x4, x5, x6, x7, x8, x9, x10, x11, x12, x13, x14, x15, x16, x17, x18, x19, x20⟩ w' hI hd hdp K hK
      dsimp only at hI
      obtain ⟨hS, ⟨f0, f2, f4, f6, f7, f9, f10, f11, f13, f15⟩, j, hj, ⟨dd1, dd3, dd5, dd8, dd12, dd14, dd16, dd17, dd18⟩, ⟨p0, p1, p2, p3, p4, p5, p6, p7, p8, p9⟩⟩ := hI
      obtain rfl := f15 (hdp 15 (by decide +kernel))
      obtain rfl := ph_eq (k := 5) dd16 hd dd14 (hdp 14 (by decide +kernel))
      have s := p6 rfl
      clear p0 p1 p2 p3 p4 p5 p6 p7 p8 p9 hj
      obtain ⟨F, T, t, a1, n1, m1, a2, n2, m2, g, a3, n3, m3, ss, a4, n4, m4, ag, GR, ⟨e4, iF, iT⟩, ⟨e6, wt, it, et1, et2⟩, ⟨e8, ig⟩, ⟨e11, os, is⟩, ⟨e15, oa, ia⟩, ⟨e17, iG⟩, z, G⟩ := s
      have kk := gwhole B R l w' _ _ G.ps
      have HG : Hid _ := (And.intro hS (And.intro e4 (And.intro iF (And.intro iT (And.intro e6 (And.intro wt (And.intro it (And.intro et1 (And.intro et2 (And.intro e8 (And.intro ig (And.intro e11 (And.intro os (And.intro is (And.intro e15 (And.intro oa (And.intro ia (And.intro e17 (And.intro iG (And.intro z G))))))))))))))))))))
      clear hS e4 iF iT e6 wt it et1 et2 e8 ig e11 os is e15 oa ia e17 iG z G
      have HF : Hid _ := And.intro (And.intro f0 (And.intro f2 (And.intro f4 (And.intro f6 (And.intro f7 (And.intro f9 (And.intro f10 (And.intro f11 (And.intro f13 f15))))))))) (And.intro dd1 (And.intro dd3 (And.intro dd5 (And.intro dd8 (And.intro dd12 (And.intro dd14 (And.intro dd16 (And.intro dd17 dd18))))))))
      clear f0 f2 f4 f6 f7 f9 f10 f11 f13 f15 dd1 dd3 dd5 dd8 dd12 dd14 dd16 dd17 dd18 hdp hd
      refine Opn.mk ?_
      dsimp only
      go_simp
      go_wp2_with (first | (go_at_call 37; with_reducible refine kk.mono ?_; rintro e5 w5 ⟨RO, rfl, iR, G5⟩))
      obtain ⟨hS, e4, iF, iT, e6, wt, it, et1, et2, e8, ig, e11, os, is, e15, oa, ia, e17, iG, z, G⟩ := HG.out
      obtain ⟨⟨f0, f2, f4, f6, f7, f9, f10, f11, f13, f15⟩, ⟨dd1, dd3, dd5, dd8, dd12, dd14, dd16, dd17, dd18⟩⟩ := HF.out
      refine hK.out (x3, x4, x5, x6, x7, x8, x9, x10, x11, x12, x13, x14, x15, x16, x17, .pointer (some ⟨R, 0, none⟩), .int .i64 RO, x20) _ ⟨?sg, ⟨(fun h => f0 (upd_ne h (by decide))), (fun h => f2 (upd_ne h (by decide))), (fun h => f4 (upd_ne h (by decide))), (fun h => f6 (upd_ne h (by decide))), (fun h => f7 (upd_ne h (by decide))), (fun h => f9 (upd_ne h (by decide))), (fun h => f10 (upd_ne h (by decide))), (fun h => f11 (upd_ne h (by decide))), (fun h => f13 (upd_ne h (by decide))), (fun _ => rfl)⟩, 7, by decide, ⟨((upd_no (by decide)).trans (dd1.trans (by decide))), ((upd_no (by decide)).trans (dd3.trans (by decide))), ((upd_no (by decide)).trans (dd5.trans (by decide))), ((upd_no (by decide)).trans (dd8.trans (by decide))), ((upd_no (by decide)).trans (dd12.trans (by decide))), ((upd_no (by decide)).trans (dd14.trans (by decide))), (by simp [upd]), ((upd_no (by decide)).trans (dd17.trans (by decide))), ((upd_no (by decide)).trans (dd18.trans (by decide)))⟩, ⟨(fun h => absurd h (by decide)), (fun h => absurd h (by decide)), (fun h => absurd h (by decide)), (fun h => absurd h (by decide)), (fun h => absurd h (by decide)), (fun h => absurd h (by decide)), (fun h => absurd h (by decide)), (fun _ => ?new), (fun h => absurd h (by decide)), (fun h => absurd h (by decide))⟩⟩
      case sg => exact BxA.grow hS G5.g (by omega)
      case new =>
        have KR := PS.ktt G.ps G5.g
        have GC := Got.comp2 hple ((((((fwd_span l).comp (fwd_fil l kd)).comp (fwd_u l)).comp (fwd_l (fwd_l (fwd_u l)))).comp (fwd_l (fwd_agg l))).comp (fwd_u l)) (fwd_u l) G G5
        exact ⟨F, T, t, a1, n1, m1, a2, n2, m2, g, a3, n3, m3, ss, a4, n4, m4, ag, GR, RO, ⟨e4, iF, iT⟩, ⟨e6, wt.grow G5.g (by omega), it, et1, et2⟩, ⟨e8, ig⟩, ⟨e11, KR.own os (by decide), fun x hx => (is x hx).keep KR (by decide)⟩, ⟨e15, KR.own oa (by decide), ia⟩, ⟨e17, iG⟩, ⟨rfl, iR⟩, BxA.grow z G5.g (by omega), GC⟩
    · rintro d ⟨x3, x4, x5, x6, x7, x8, x9, x10, x11, x12, x13, x14, x15, x16, x17, x18, x19, x20⟩ w' hI hd hdp K hK
      dsimp only at hI
      obtain ⟨hS, ⟨f0, f2, f4, f6, f7, f9, f10, f11, f13, f15⟩, j, hj, ⟨dd1, dd3, dd5, dd8, dd12, dd14, dd16, dd17, dd18⟩, ⟨p0, p1, p2, p3, p4, p5, p6, p7, p8, p9⟩⟩ := hI
      obtain rfl := ph_eq (k := 6) dd17 hd dd16 (hdp 16 (by decide +kernel))
      have s := p7 rfl
      clear p0 p1 p2 p3 p4 p5 p6 p7 p8 p9 hj
      obtain ⟨F, T, t, a1, n1, m1, a2, n2, m2, g, a3, n3, m3, ss, a4, n4, m4, ag, GR, RO, ⟨rfl, iF, iT⟩, ⟨rfl, wt, it, et1, et2⟩, ⟨rfl, ig⟩, ⟨rfl, os, is⟩, ⟨rfl, oa, ia⟩, ⟨rfl, iG⟩, ⟨rfl, iR⟩, z, G⟩ := s
      have HG : Hid _ := (And.intro hS (And.intro iF (And.intro iT (And.intro wt (And.intro it (And.intro et1 (And.intro et2 (And.intro ig (And.intro os (And.intro is (And.intro oa (And.intro ia (And.intro iG (And.intro iR (And.intro z G)))))))))))))))
      clear hS iF iT wt it et1 et2 ig os is oa ia iG iR z G
      have HF : Hid _ := And.intro (And.intro f0 (And.intro f2 (And.intro f4 (And.intro f6 (And.intro f7 (And.intro f9 (And.intro f10 (And.intro f11 (And.intro f13 f15))))))))) (And.intro dd1 (And.intro dd3 (And.intro dd5 (And.intro dd8 (And.intro dd12 (And.intro dd14 (And.intro dd16 (And.intro dd17 dd18))))))))
      clear f0 f2 f4 f6 f7 f9 f10 f11 f13 f15 dd1 dd3 dd5 dd8 dd12 dd14 dd16 dd17 dd18 hdp hd
      refine Opn.mk ?_
      dsimp only
      go_simp
      obtain ⟨hS, iF, iT, wt, it, et1, et2, ig, os, is, oa, ia, iG, iR, z, G⟩ := HG.out
      obtain ⟨⟨f0, f2, f4, f6, f7, f9, f10, f11, f13, f15⟩, ⟨dd1, dd3, dd5, dd8, dd12, dd14, dd16, dd17, dd18⟩⟩ := HF.out
      refine hK.out (x3, .agg #[.int .i64 F, .int .i64 T], x5, .agg #[.int .i64 t.k, .int .i64 t.d, .slice a1 n1 m1, .int .i64 t.lo, .int .i64 t.hi, .slice a2 n2 m2], x7, .int .i64 g, x9, x10, .slice a3 n3 m3, x12, x13, x14, .slice a4 n4 m4, x16, .int .i64 GR, x18, .int .i64 RO, .agg #[.int .i64 F, .int .i64 T, .int .i64 t.k, .int .i64 t.d, .slice a1 n1 m1, .int .i64 t.lo, .int .i64 t.hi, .slice a2 n2 m2, .int .i64 g, .slice a3 n3 m3, .slice a4 n4 m4, .int .i64 GR, .int .i64 RO]) _ ⟨?sg, ⟨(fun h => f0 (upd_ne h (by decide))), (fun h => f2 (upd_ne h (by decide))), (fun h => f4 (upd_ne h (by decide))), (fun h => f6 (upd_ne h (by decide))), (fun h => f7 (upd_ne h (by decide))), (fun h => f9 (upd_ne h (by decide))), (fun h => f10 (upd_ne h (by decide))), (fun h => f11 (upd_ne h (by decide))), (fun h => f13 (upd_ne h (by decide))), (fun h => f15 (upd_ne h (by decide)))⟩, 8, by decide, ⟨((upd_no (by decide)).trans (dd1.trans (by decide))), ((upd_no (by decide)).trans (dd3.trans (by decide))), ((upd_no (by decide)).trans (dd5.trans (by decide))), ((upd_no (by decide)).trans (dd8.trans (by decide))), ((upd_no (by decide)).trans (dd12.trans (by decide))), ((upd_no (by decide)).trans (dd14.trans (by decide))), ((upd_no (by decide)).trans (dd16.trans (by decide))), (by simp [upd]), ((upd_no (by decide)).trans (dd18.trans (by decide)))⟩, ⟨(fun h => absurd h (by decide)), (fun h => absurd h (by decide)), (fun h => absurd h (by decide)), (fun h => absurd h (by decide)), (fun h => absurd h (by decide)), (fun h => absurd h (by decide)), (fun h => absurd h (by decide)), (fun h => absurd h (by decide)), (fun _ => ?new), (fun h => absurd h (by decide))⟩⟩
      case sg => exact hS
      case new =>
        exact ⟨F, T, t, a1, n1, m1, a2, n2, m2, g, a3, n3, m3, ss, a4, n4, m4, ag, GR, RO, ⟨rfl, iF, iT⟩, ⟨rfl, wt, it, et1, et2⟩, ⟨rfl, ig⟩, ⟨rfl, os, is⟩, ⟨rfl, oa, ia⟩, ⟨rfl, iG⟩, ⟨rfl, iR⟩, rfl, z, G⟩
    · rintro d ⟨x3, x4, x5, x6, x7, x8, x9, x10, x11, x12, x13, x14, x15, x16, x17, x18, x19, x20⟩ w' hI hd hdp K hK
      dsimp only at hI
      obtain ⟨hS, ⟨f0, f2, f4, f6, f7, f9, f10, f11, f13, f15⟩, j, hj, ⟨dd1, dd3, dd5, dd8, dd12, dd14, dd16, dd17, dd18⟩, ⟨p0, p1, p2, p3, p4, p5, p6, p7, p8, p9⟩⟩ := hI
      obtain rfl := ph_eq (k := 7) dd18 hd dd17 (hdp 17 (by decide +kernel))
      have s := p8 rfl
      clear p0 p1 p2 p3 p4 p5 p6 p7 p8 p9 hj
      obtain ⟨F, T, t, a1, n1, m1, a2, n2, m2, g, a3, n3, m3, ss, a4, n4, m4, ag, GR, RO, ⟨rfl, iF, iT⟩, ⟨rfl, wt, it, et1, et2⟩, ⟨rfl, ig⟩, ⟨rfl, os, is⟩, ⟨rfl, oa, ia⟩, ⟨rfl, iG⟩, ⟨rfl, iR⟩, rfl, z, G⟩ := s
      have z0 : w'.cell? ⟨w.heap.size + 1, 0, none⟩ = some (.int .i64 0) := BxA.cell z 0 _ rfl
      have q0 : w'.frozen? ⟨w.heap.size + 1, 0, none⟩ = false := BxA.free z 0
      have z1 : w'.cell? ⟨w.heap.size + 1, 1, none⟩ = some (.int .i64 0) := BxA.cell z 1 _ rfl
      have q1 : w'.frozen? ⟨w.heap.size + 1, 1, none⟩ = false := BxA.free z 1
      have z2 : w'.cell? ⟨w.heap.size + 1, 2, none⟩ = some (.int .i64 0) := BxA.cell z 2 _ rfl
      have q2 : w'.frozen? ⟨w.heap.size + 1, 2, none⟩ = false := BxA.free z 2
      have z3 : w'.cell? ⟨w.heap.size + 1, 3, none⟩ = some (.int .i64 0) := BxA.cell z 3 _ rfl
      have q3 : w'.frozen? ⟨w.heap.size + 1, 3, none⟩ = false := BxA.free z 3
      have z4 : w'.cell? ⟨w.heap.size + 1, 4, none⟩ = some (.slice none 0 0) := BxA.cell z 4 _ rfl
      have q4 : w'.frozen? ⟨w.heap.size + 1, 4, none⟩ = false := BxA.free z 4
      have z5 : w'.cell? ⟨w.heap.size + 1, 5, none⟩ = some (.int .i64 0) := BxA.cell z 5 _ rfl
      have q5 : w'.frozen? ⟨w.heap.size + 1, 5, none⟩ = false := BxA.free z 5
      have z6 : w'.cell? ⟨w.heap.size + 1, 6, none⟩ = some (.int .i64 0) := BxA.cell z 6 _ rfl
      have q6 : w'.frozen? ⟨w.heap.size + 1, 6, none⟩ = false := BxA.free z 6
      have z7 : w'.cell? ⟨w.heap.size + 1, 7, none⟩ = some (.slice none 0 0) := BxA.cell z 7 _ rfl
      have q7 : w'.frozen? ⟨w.heap.size + 1, 7, none⟩ = false := BxA.free z 7
      have z8 : w'.cell? ⟨w.heap.size + 1, 8, none⟩ = some (.int .i64 0) := BxA.cell z 8 _ rfl
      have q8 : w'.frozen? ⟨w.heap.size + 1, 8, none⟩ = false := BxA.free z 8
      have z9 : w'.cell? ⟨w.heap.size + 1, 9, none⟩ = some (.slice none 0 0) := BxA.cell z 9 _ rfl
      have q9 : w'.frozen? ⟨w.heap.size + 1, 9, none⟩ = false := BxA.free z 9
      have z10 : w'.cell? ⟨w.heap.size + 1, 10, none⟩ = some (.slice none 0 0) := BxA.cell z 10 _ rfl
      have q10 : w'.frozen? ⟨w.heap.size + 1, 10, none⟩ = false := BxA.free z 10
      have z11 : w'.cell? ⟨w.heap.size + 1, 11, none⟩ = some (.int .i64 0) := BxA.cell z 11 _ rfl
      have q11 : w'.frozen? ⟨w.heap.size + 1, 11, none⟩ = false := BxA.free z 11
      have z12 : w'.cell? ⟨w.heap.size + 1, 12, none⟩ = some (.int .i64 0) := BxA.cell z 12 _ rfl
      have q12 : w'.frozen? ⟨w.heap.size + 1, 12, none⟩ = false := BxA.free z 12
      have gY : w'.grownBy (((((((((((((w'.setCell ⟨w.heap.size + 1, 0, none⟩ (.int .i64 F)).setCell ⟨w.heap.size + 1, 1, none⟩ (.int .i64 T)).setCell ⟨w.heap.size + 1, 2, none⟩ (.int .i64 t.k)).setCell ⟨w.heap.size + 1, 3, none⟩ (.int .i64 t.d)).setCell ⟨w.heap.size + 1, 4, none⟩ (.slice a1 n1 m1)).setCell ⟨w.heap.size + 1, 5, none⟩ (.int .i64 t.lo)).setCell ⟨w.heap.size + 1, 6, none⟩ (.int .i64 t.hi)).setCell ⟨w.heap.size + 1, 7, none⟩ (.slice a2 n2 m2)).setCell ⟨w.heap.size + 1, 8, none⟩ (.int .i64 g)).setCell ⟨w.heap.size + 1, 9, none⟩ (.slice a3 n3 m3)).setCell ⟨w.heap.size + 1, 10, none⟩ (.slice a4 n4 m4)).setCell ⟨w.heap.size + 1, 11, none⟩ (.int .i64 GR)).setCell ⟨w.heap.size + 1, 12, none⟩ (.int .i64 RO)) (some (w.heap.size + 1)) := (grown_trans' (grown_trans' (grown_trans' (grown_trans' (grown_trans' (grown_trans' (grown_trans' (grown_trans' (grown_trans' (grown_trans' (grown_trans' (grown_trans' grown_setCell grown_setCell) grown_setCell) grown_setCell) grown_setCell) grown_setCell) grown_setCell) grown_setCell) grown_setCell) grown_setCell) grown_setCell) grown_setCell) grown_setCell)
      have xx1 : BxA _ (w.heap.size + 1) 36 #[.int .i64 F, .int .i64 0, .int .i64 0, .int .i64 0, .slice none 0 0, .int .i64 0, .int .i64 0, .slice none 0 0, .int .i64 0, .slice none 0 0, .slice none 0 0, .int .i64 0, .int .i64 0] := BxA.set z 0 (.int .i64 F)
      have xx2 : BxA _ (w.heap.size + 1) 36 #[.int .i64 F, .int .i64 T, .int .i64 0, .int .i64 0, .slice none 0 0, .int .i64 0, .int .i64 0, .slice none 0 0, .int .i64 0, .slice none 0 0, .slice none 0 0, .int .i64 0, .int .i64 0] := BxA.set xx1 1 (.int .i64 T)
      have xx3 : BxA _ (w.heap.size + 1) 36 #[.int .i64 F, .int .i64 T, .int .i64 t.k, .int .i64 0, .slice none 0 0, .int .i64 0, .int .i64 0, .slice none 0 0, .int .i64 0, .slice none 0 0, .slice none 0 0, .int .i64 0, .int .i64 0] := BxA.set xx2 2 (.int .i64 t.k)
      have xx4 : BxA _ (w.heap.size + 1) 36 #[.int .i64 F, .int .i64 T, .int .i64 t.k, .int .i64 t.d, .slice none 0 0, .int .i64 0, .int .i64 0, .slice none 0 0, .int .i64 0, .slice none 0 0, .slice none 0 0, .int .i64 0, .int .i64 0] := BxA.set xx3 3 (.int .i64 t.d)
      have xx5 : BxA _ (w.heap.size + 1) 36 #[.int .i64 F, .int .i64 T, .int .i64 t.k, .int .i64 t.d, .slice a1 n1 m1, .int .i64 0, .int .i64 0, .slice none 0 0, .int .i64 0, .slice none 0 0, .slice none 0 0, .int .i64 0, .int .i64 0] := BxA.set xx4 4 (.slice a1 n1 m1)
      have xx6 : BxA _ (w.heap.size + 1) 36 #[.int .i64 F, .int .i64 T, .int .i64 t.k, .int .i64 t.d, .slice a1 n1 m1, .int .i64 t.lo, .int .i64 0, .slice none 0 0, .int .i64 0, .slice none 0 0, .slice none 0 0, .int .i64 0, .int .i64 0] := BxA.set xx5 5 (.int .i64 t.lo)
      have xx7 : BxA _ (w.heap.size + 1) 36 #[.int .i64 F, .int .i64 T, .int .i64 t.k, .int .i64 t.d, .slice a1 n1 m1, .int .i64 t.lo, .int .i64 t.hi, .slice none 0 0, .int .i64 0, .slice none 0 0, .slice none 0 0, .int .i64 0, .int .i64 0] := BxA.set xx6 6 (.int .i64 t.hi)
      have xx8 : BxA _ (w.heap.size + 1) 36 #[.int .i64 F, .int .i64 T, .int .i64 t.k, .int .i64 t.d, .slice a1 n1 m1, .int .i64 t.lo, .int .i64 t.hi, .slice a2 n2 m2, .int .i64 0, .slice none 0 0, .slice none 0 0, .int .i64 0, .int .i64 0] := BxA.set xx7 7 (.slice a2 n2 m2)
      have xx9 : BxA _ (w.heap.size + 1) 36 #[.int .i64 F, .int .i64 T, .int .i64 t.k, .int .i64 t.d, .slice a1 n1 m1, .int .i64 t.lo, .int .i64 t.hi, .slice a2 n2 m2, .int .i64 g, .slice none 0 0, .slice none 0 0, .int .i64 0, .int .i64 0] := BxA.set xx8 8 (.int .i64 g)
      have xx10 : BxA _ (w.heap.size + 1) 36 #[.int .i64 F, .int .i64 T, .int .i64 t.k, .int .i64 t.d, .slice a1 n1 m1, .int .i64 t.lo, .int .i64 t.hi, .slice a2 n2 m2, .int .i64 g, .slice a3 n3 m3, .slice none 0 0, .int .i64 0, .int .i64 0] := BxA.set xx9 9 (.slice a3 n3 m3)
      have xx11 : BxA _ (w.heap.size + 1) 36 #[.int .i64 F, .int .i64 T, .int .i64 t.k, .int .i64 t.d, .slice a1 n1 m1, .int .i64 t.lo, .int .i64 t.hi, .slice a2 n2 m2, .int .i64 g, .slice a3 n3 m3, .slice a4 n4 m4, .int .i64 0, .int .i64 0] := BxA.set xx10 10 (.slice a4 n4 m4)
      have xx12 : BxA _ (w.heap.size + 1) 36 #[.int .i64 F, .int .i64 T, .int .i64 t.k, .int .i64 t.d, .slice a1 n1 m1, .int .i64 t.lo, .int .i64 t.hi, .slice a2 n2 m2, .int .i64 g, .slice a3 n3 m3, .slice a4 n4 m4, .int .i64 GR, .int .i64 0] := BxA.set xx11 11 (.int .i64 GR)
      have xx13 : BxA _ (w.heap.size + 1) 36 #[.int .i64 F, .int .i64 T, .int .i64 t.k, .int .i64 t.d, .slice a1 n1 m1, .int .i64 t.lo, .int .i64 t.hi, .slice a2 n2 m2, .int .i64 g, .slice a3 n3 m3, .slice a4 n4 m4, .int .i64 GR, .int .i64 RO] := BxA.set xx12 12 (.int .i64 RO)
      have xY : BxA (((((((((((((w'.setCell ⟨w.heap.size + 1, 0, none⟩ (.int .i64 F)).setCell ⟨w.heap.size + 1, 1, none⟩ (.int .i64 T)).setCell ⟨w.heap.size + 1, 2, none⟩ (.int .i64 t.k)).setCell ⟨w.heap.size + 1, 3, none⟩ (.int .i64 t.d)).setCell ⟨w.heap.size + 1, 4, none⟩ (.slice a1 n1 m1)).setCell ⟨w.heap.size + 1, 5, none⟩ (.int .i64 t.lo)).setCell ⟨w.heap.size + 1, 6, none⟩ (.int .i64 t.hi)).setCell ⟨w.heap.size + 1, 7, none⟩ (.slice a2 n2 m2)).setCell ⟨w.heap.size + 1, 8, none⟩ (.int .i64 g)).setCell ⟨w.heap.size + 1, 9, none⟩ (.slice a3 n3 m3)).setCell ⟨w.heap.size + 1, 10, none⟩ (.slice a4 n4 m4)).setCell ⟨w.heap.size + 1, 11, none⟩ (.int .i64 GR)).setCell ⟨w.heap.size + 1, 12, none⟩ (.int .i64 RO)) (w.heap.size + 1) 36 #[.int .i64 F, .int .i64 T, .int .i64 t.k, .int .i64 t.d, .slice a1 n1 m1, .int .i64 t.lo, .int .i64 t.hi, .slice a2 n2 m2, .int .i64 g, .slice a3 n3 m3, .slice a4 n4 m4, .int .i64 GR, .int .i64 RO] := xx13
      clear xx1 xx2 xx3 xx4 xx5 xx6 xx7 xx8 xx9 xx10 xx11 xx12 xx13
      have HG : Hid _ := (And.intro hS (And.intro iF (And.intro iT (And.intro wt (And.intro it (And.intro et1 (And.intro et2 (And.intro ig (And.intro os (And.intro is (And.intro oa (And.intro ia (And.intro iG (And.intro iR (And.intro z (And.intro G (And.intro gY xY)))))))))))))))))
      clear hS iF iT wt it et1 et2 ig os is oa ia iG iR z G gY xY
      have HF : Hid _ := And.intro (And.intro f0 (And.intro f2 (And.intro f4 (And.intro f6 (And.intro f7 (And.intro f9 (And.intro f10 (And.intro f11 (And.intro f13 f15))))))))) (And.intro dd1 (And.intro dd3 (And.intro dd5 (And.intro dd8 (And.intro dd12 (And.intro dd14 (And.intro dd16 (And.intro dd17 dd18))))))))
      clear f0 f2 f4 f6 f7 f9 f10 f11 f13 f15 dd1 dd3 dd5 dd8 dd12 dd14 dd16 dd17 dd18 hdp hd
      refine Opn.mk ?_
      dsimp only
      go_simp
      obtain ⟨hS, iF, iT, wt, it, et1, et2, ig, os, is, oa, ia, iG, iR, z, G, gY, xY⟩ := HG.out
      obtain ⟨⟨f0, f2, f4, f6, f7, f9, f10, f11, f13, f15⟩, ⟨dd1, dd3, dd5, dd8, dd12, dd14, dd16, dd17, dd18⟩⟩ := HF.out
      refine hK.out (x3, .agg #[.int .i64 F, .int .i64 T], x5, .agg #[.int .i64 t.k, .int .i64 t.d, .slice a1 n1 m1, .int .i64 t.lo, .int .i64 t.hi, .slice a2 n2 m2], x7, .int .i64 g, x9, x10, .slice a3 n3 m3, x12, x13, x14, .slice a4 n4 m4, x16, .int .i64 GR, x18, .int .i64 RO, .agg #[.int .i64 F, .int .i64 T, .int .i64 t.k, .int .i64 t.d, .slice a1 n1 m1, .int .i64 t.lo, .int .i64 t.hi, .slice a2 n2 m2, .int .i64 g, .slice a3 n3 m3, .slice a4 n4 m4, .int .i64 GR, .int .i64 RO]) _ ⟨?sg, ⟨(fun h => f0 (upd_ne h (by decide))), (fun h => f2 (upd_ne h (by decide))), (fun h => f4 (upd_ne h (by decide))), (fun h => f6 (upd_ne h (by decide))), (fun h => f7 (upd_ne h (by decide))), (fun h => f9 (upd_ne h (by decide))), (fun h => f10 (upd_ne h (by decide))), (fun h => f11 (upd_ne h (by decide))), (fun h => f13 (upd_ne h (by decide))), (fun h => f15 (upd_ne h (by decide)))⟩, 9, by decide, ⟨((upd_no (by decide)).trans (dd1.trans (by decide))), ((upd_no (by decide)).trans (dd3.trans (by decide))), ((upd_no (by decide)).trans (dd5.trans (by decide))), ((upd_no (by decide)).trans (dd8.trans (by decide))), ((upd_no (by decide)).trans (dd12.trans (by decide))), ((upd_no (by decide)).trans (dd14.trans (by decide))), ((upd_no (by decide)).trans (dd16.trans (by decide))), ((upd_no (by decide)).trans (dd17.trans (by decide))), (by simp [upd])⟩, ⟨(fun h => absurd h (by decide)), (fun h => absurd h (by decide)), (fun h => absurd h (by decide)), (fun h => absurd h (by decide)), (fun h => absurd h (by decide)), (fun h => absurd h (by decide)), (fun h => absurd h (by decide)), (fun h => absurd h (by decide)), (fun h => absurd h (by decide)), (fun _ => ?new)⟩⟩
      case sg => exact BxA.grow hS gY (by omega)
      case new =>
        have KF := BxA.ktt z gY
        exact ⟨F, T, t, a1, n1, m1, a2, n2, m2, g, a3, n3, m3, ss, a4, n4, m4, ag, GR, RO, ⟨iF, iT⟩, ⟨wt.grow gY (by omega), it, et1, et2⟩, ig, ⟨KF.own os (by decide), fun x hx => (is x hx).keep KF (by decide)⟩, ⟨KF.own oa (by decide), ia⟩, iG, iR, xY, G.ps.keep (grown_above gY (by omega) (BxA.lt z)), fill_grown G.g gY (by omega), G.b⟩
  case he3 =>
    rintro d ⟨x3, x4, x5, x6, x7, x8, x9, x10, x11, x12, x13, x14, x15, x16, x17, x18, x19, x20⟩ w' hall hI
    dsimp only at hI
    obtain ⟨hS, ⟨f0, f2, f4, f6, f7, f9, f10, f11, f13, f15⟩, j, hj, ⟨dd1, dd3, dd5, dd8, dd12, dd14, dd16, dd17, dd18⟩, ⟨p0, p1, p2, p3, p4, p5, p6, p7, p8, p9⟩⟩ := hI
    obtain rfl := ph_end (k := 8) hj dd18 (hall 18 (by decide))
    have s := p9 rfl
    clear hall hj f0 f2 f4 f6 f7 f9 f10 f11 f13 f15 dd1 dd3 dd5 dd8 dd12 dd14 dd16 dd17 dd18 p0 p1 p2 p3 p4 p5 p6 p7 p8 p9
    obtain ⟨F, T, t, a1, n1, m1, a2, n2, m2, g, a3, n3, m3, ss, a4, n4, m4, ag, GR, RO, ⟨iF, iT⟩, ⟨wt, it, et1, et2⟩, ig, ⟨os, is⟩, ⟨oa, ia⟩, iG, iR, xY, G⟩ := s
    have y0 : w'.cell? ⟨w.heap.size + 1, 0, none⟩ = some (.int .i64 F) := BxA.cell xY 0 _ rfl
    have y1 : w'.cell? ⟨w.heap.size + 1, 1, none⟩ = some (.int .i64 T) := BxA.cell xY 1 _ rfl
    have y2 : w'.cell? ⟨w.heap.size + 1, 2, none⟩ = some (.int .i64 t.k) := BxA.cell xY 2 _ rfl
    have y3 : w'.cell? ⟨w.heap.size + 1, 3, none⟩ = some (.int .i64 t.d) := BxA.cell xY 3 _ rfl
    have y4 : w'.cell? ⟨w.heap.size + 1, 4, none⟩ = some (.slice a1 n1 m1) := BxA.cell xY 4 _ rfl
    have y5 : w'.cell? ⟨w.heap.size + 1, 5, none⟩ = some (.int .i64 t.lo) := BxA.cell xY 5 _ rfl
    have y6 : w'.cell? ⟨w.heap.size + 1, 6, none⟩ = some (.int .i64 t.hi) := BxA.cell xY 6 _ rfl
    have y7 : w'.cell? ⟨w.heap.size + 1, 7, none⟩ = some (.slice a2 n2 m2) := BxA.cell xY 7 _ rfl
    have y8 : w'.cell? ⟨w.heap.size + 1, 8, none⟩ = some (.int .i64 g) := BxA.cell xY 8 _ rfl
    have y9 : w'.cell? ⟨w.heap.size + 1, 9, none⟩ = some (.slice a3 n3 m3) := BxA.cell xY 9 _ rfl
    have y10 : w'.cell? ⟨w.heap.size + 1, 10, none⟩ = some (.slice a4 n4 m4) := BxA.cell xY 10 _ rfl
    have y11 : w'.cell? ⟨w.heap.size + 1, 11, none⟩ = some (.int .i64 GR) := BxA.cell xY 11 _ rfl
    have y12 : w'.cell? ⟨w.heap.size + 1, 12, none⟩ = some (.int .i64 RO) := BxA.cell xY 12 _ rfl
    have HG : Hid _ := (And.intro iF (And.intro iT (And.intro wt (And.intro it (And.intro et1 (And.intro et2 (And.intro ig (And.intro os (And.intro is (And.intro oa (And.intro ia (And.intro iG (And.intro iR G)))))))))))))
    clear iF iT wt it et1 et2 ig os is oa ia iG iR xY G hS
    dsimp only
    go_wp2_with fail
    refine bodyPost_ret (v := .agg #[.int .i64 F, .int .i64 T, .int .i64 t.k, .int .i64 t.d, .slice a1 n1 m1, .int .i64 t.lo, .int .i64 t.hi, .slice a2 n2 m2, .int .i64 g, .slice a3 n3 m3, .slice a4 n4 m4, .int .i64 GR, .int .i64 RO]) (by simp [results, Try.results46, go_sem, y0, y1, y2, y3, y4, y5, y6, y7, y8, y9, y10, y11, y12]) rfl ?_
    obtain ⟨iF, iT, wt, it, et1, et2, ig, os, is, oa, ia, iG, iR, G⟩ := HG.out
    refine ⟨⟨F, T, t, g, .slice a3 n3 m3, ss, .slice a4 n4 m4, ag, GR, RO⟩, by rw [et1, et2], ?_, ⟨⟨_, _, _, et1⟩, ⟨_, _, _, et2⟩, ⟨_, _, _, rfl⟩, ⟨_, _, _, rfl⟩⟩, G.ps, G.g, fun h0 h2 => ?_⟩
    · exact ((((own_win os).both (own_win oa)).both ((Win.all fun x hx => (is x hx).win).both wt)).imp fun _ r => ⟨iF, iT, r.2.2, it, ig, Fi.RdsK.of_own r.1.1, fun x hx => ⟨Fi.RdsK.of_own (r.2.1 x hx).1, (r.2.1 x hx).2⟩, Fi.RdsK.of_own r.1.2, ia, iG, iR⟩).mono (by omega)
    · have e := G.b h0 h2
      refine Eq.trans ?_ e
      simp only [r_query, List.append_assoc]
theorem gquery (B R : Nat) (l : Bs) (w : World) (p e : Nat) (hlb : l.length ≤ 1048576) (h : PS B w R l p e) :
    Calls Try.prog 46 #[.pointer (some ⟨R, 0, none⟩)] w fun ev w' => ∃ q : Qw, ev = .returned (.agg #[.int .i64 q.F, .int .i64 q.T, .int .i64 q.t.k, .int .i64 q.t.d, q.t.tv, .int .i64 q.t.lo, .int .i64 q.t.hi, q.t.kv, .int .i64 q.g, q.sv, q.av, .int .i64 q.G, .int .i64 q.R]) ∧ Win w.heap.size w' (fun w => q.Ok w) ∧ ((∃ a n c, q.t.tv = .slice a n c) ∧ (∃ a n c, q.t.kv = .slice a n c) ∧ (∃ a n c, q.sv = .slice a n c) ∧ (∃ a n c, q.av = .slice a n c)) ∧ Got B R l w w' (p, e) (skQuery l) (r_query q) := by
  have kk := gquery' 20 B R l w p e hlb h (gfil B R l hlb 20 1 (by omega))
  unfold skQuery
  exact kk
end Go.Proofs.Ytpdlioidiobbbaa
