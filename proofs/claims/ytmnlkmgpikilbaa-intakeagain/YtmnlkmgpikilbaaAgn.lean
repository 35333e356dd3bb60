/- The reference's Compare and Same of equal facts; two intakes side by side. -/
import Derived.Test.YtmnlkmgpikilbaaReo
import Derived.Test.YtmnlkmgpikilbaaPrA
import Derived.Test.YtmnlkmgpikilbaaGnP
namespace Go.Proofs.Ytmnlkmgpikilbaa
open Go.RowKit Go.Maps Go.Sort
set_option linter.unusedVariables false

set_option maxRecDepth 20000 in
theorem compare_same (t : Int) (w : World) : Calls Try.prog 41 #[.agg (fc t), .agg (fc t)] w fun e w' => e = .returned (.int .i64 0) ∧ Grows w w' := by
  have hlt : ¬ t < t := Int.lt_irrefl t
  obtain ⟨W, hW⟩ : ∃ W, W = (w.alloc (.cells (fc t) 38)).alloc (.cells (fc t) 38) := ⟨_, rfl⟩
  have hG : Grows w W := by rw [hW]; exact (Grows.alloc w _).trans (Grows.alloc _ _)
  have s1 : BxA W w.heap.size 38 (fc t) := by rw [hW]; exact bx_up (BxA.new _ _ _) ((Below.refl _ _).alloc (Nat.le_refl _) _)
  have s2 : BxA W (w.heap.size + 1) 38 (fc t) := by
    have := BxA.new (w.alloc (.cells (fc t) 38)) 38 (fc t)
    rw [hW, show w.heap.size + 1 = (w.alloc (.cells (fc t) 38)).heap.size by simp]
    exact this
  have a0 : W.cell? ⟨w.heap.size, 0, none⟩ = some (.int .i64 t) := s1.cell 0 _ rfl
  have a1 : W.cell? ⟨w.heap.size, 1, none⟩ = some nl := s1.cell 1 _ rfl
  have a2 : W.cell? ⟨w.heap.size, 2, none⟩ = some nl := s1.cell 2 _ rfl
  have b0 : W.cell? ⟨w.heap.size + 1, 0, none⟩ = some (.int .i64 t) := s2.cell 0 _ rfl
  have b1 : W.cell? ⟨w.heap.size + 1, 1, none⟩ = some nl := s2.cell 1 _ rfl
  have b2 : W.cell? ⟨w.heap.size + 1, 2, none⟩ = some nl := s2.cell 2 _ rfl
  have HG := hide hG
  clear hG s1 s2
  go_enter Try.func41, Try.ntmps41
  go_upto_region 1 with fail
  rw [← hW]
  clear hW
  go_wp2_with fail
  refine wp_loop_rounds 1 ?_
  rw [rounds_succ]
  go_wp2_with fail
  refine wp_loop_rounds 1 ?_
  rw [rounds_succ]
  go_wp2_with fail
  go_ret
  exact ⟨rfl, HG.out⟩
set_option maxRecDepth 20000 in
set_option maxHeartbeats 2000000 in
theorem same_any (w : World) (a b : Option Addr) (n c d : Nat) (ts : List Int) (ha : RdsK 3 w (.slice a n c) n (fcs ts)) (hb : RdsK 3 w (.slice b n d) n (fcs ts)) (ho1 : ∀ ad, a = some ad → ∃ g q, ad = ⟨g, q, none⟩) (ho2 : ∀ ad, b = some ad → ∃ g q, ad = ⟨g, q, none⟩) (hn : n ≤ 100000) :
    Calls Try.prog 24 #[.slice a n c, .slice b n d] w fun e w' => e = .returned (.bool true) ∧ Below w.heap.size w w' := by
  have hlen : ts.length = n := by
    obtain ⟨_, _, _, h0, _⟩ := ha
    rw [fcs_length] at h0
    omega
  have HA := hide ha
  have HB := hide hb
  have HL := hide hlen
  clear ha hb hlen
  go_enter Try.func24, Try.ntmps24
  go_upto_region 4 with fail
  go_loopg [5] n (fun kx v5 wr => ∃ i : Nat, v5 = .int .i64 (i : Int) ∧ i ≤ n ∧ n - i ≤ kx ∧ Hid (Below w.heap.size w wr))
  case atStart => exact ⟨0, rfl, Nat.zero_le _, Nat.le_refl _, Below.refl _ _⟩
  case round =>
    obtain ⟨i, rfl, hi, hkx, HW⟩ := hrel
    by_cases hlt : i < n
    · have hltz : (i : Int) < (n : Int) := by omega
      have hil : i < ts.length := by rw [HL.out]; exact hlt
      obtain ⟨t, ht⟩ : ∃ t, t = ts[i] := ⟨_, rfl⟩
      obtain ⟨g1, g2, g3⟩ := fcs_get ts i hil
      rw [← ht] at g1
      obtain ⟨ao, cap, hv, h0, h2, h3, h4, h5⟩ := HA.out
      injection hv with e1 e2 e3
      subst e1
      subst e3
      obtain ⟨bo, cap', hv', h0', h2', h3', h4', h5'⟩ := HB.out
      injection hv' with e1 e2 e3
      subst e1
      subst e3
      cases a with
      | none => exact absurd (h4 rfl).1 (by omega)
      | some ad =>
        cases b with
        | none => exact absurd (h4' rfl).1 (by omega)
        | some bd =>
          obtain ⟨ga, qa, rfl⟩ := ho1 ad rfl
          obtain ⟨gb, qb, rfl⟩ := ho2 bd rfl
          have c0 := cell_upB HW.out (h5 _ rfl _ _ g1)
          have c1 := cell_upB HW.out (h5 _ rfl _ _ g2)
          have c2 := cell_upB HW.out (h5 _ rfl _ _ g3)
          have d0 := cell_upB HW.out (h5' _ rfl _ _ g1)
          have d1 := cell_upB HW.out (h5' _ rfl _ _ g2)
          have d2 := cell_upB HW.out (h5' _ rfl _ _ g3)
          rw [Addr.add_lit] at c0 c1 c2 d0 d1 d2
          rw [← Nat.add_assoc] at c1 c2 d1 d2
          unfold maxLen at h3 h3'
          clear h0 h0' h4 h4' h5 h5' g1 g2 g3 ht e2
          go_upto_region 6 with fail
          go_region_with (
            go_at_call 41
            refine (compare_same t _).mono ?_
            rintro e w4 ⟨he4, hg4⟩
            subst he4
            have HB4 := hide (HW.out.trans (((Grows.drew wr).trans hg4).below.mono HW.out.size))
            clear hg4)
          all_goals (
            go_wp2_with fail
            go_roundg (n - (i + 1))
            case measure => omega
            case rel => exact ⟨i + 1, rfl, hlt, Nat.le_refl _, HB4.out⟩)
    · have hltz : ¬ (i : Int) < (n : Int) := by omega
      go_wp2_with fail
      go_ret
      exact ⟨rfl, HW.out⟩
theorem own_spot {w : World} {b e k n m c : Nat} {a : Option Addr} {xs : List Value} (h : w.ownsRow b e k (.slice a m c) n xs) : ∀ ad, a = some ad → ∃ g q, ad = ⟨g, q, none⟩ := by
  rintro ad rfl
  rcases h.2 with ⟨q, _⟩ | ⟨g, cap, cur, q, _⟩
  · cases q
  · injection q with q1 _ _
    injection q1 with q1
    exact ⟨g, 0, q1⟩
/-- Two intakes of a law's own. -/
structure S2 (w0 w : World) (x y : Nat) (l : Int) (sx : Value) (Zx : List Kp) (ox : Kp) (sy : Value) (Zy : List Kp) (oy : Kp) : Prop where
  ex : ∃ Fx Fy, InZ w x Fx l sx Zx ox ∧ InZ w y Fy l sy Zy oy ∧ (∀ i, Fx i → w0.heap.size ≤ i) ∧ (∀ i, Fy i → w0.heap.size ≤ i) ∧ ∀ i, Fx i → ¬ Fy i
  bl : Below w0.heap.size w0 w
theorem S2.swap {w0 w : World} {x y : Nat} {l : Int} {sx : Value} {Zx : List Kp} {ox : Kp} {sy : Value} {Zy : List Kp} {oy : Kp} (h : S2 w0 w x y l sx Zx ox sy Zy oy) : S2 w0 w y x l sy Zy oy sx Zx ox := by
  obtain ⟨Fx, Fy, h1, h2, h3, h4, h5⟩ := h.ex
  exact ⟨⟨Fy, Fx, h2, h1, h4, h3, fun i q r => h5 i r q⟩, h.bl⟩
theorem S2.x {w0 w : World} {x y : Nat} {l : Int} {sx : Value} {Zx : List Kp} {ox : Kp} {sy : Value} {Zy : List Kp} {oy : Kp} (h : S2 w0 w x y l sx Zx ox sy Zy oy) : St w0 w x l sx Zx ox := by
  obtain ⟨Fx, Fy, h1, h2, h3, h4, h5⟩ := h.ex
  exact ⟨⟨Fx, h1, h3⟩, h.bl⟩
theorem S2.up {w0 w w' : World} {x y : Nat} {l : Int} {sx : Value} {Zx : List Kp} {ox : Kp} {sy : Value} {Zy : List Kp} {oy : Kp} (h : S2 w0 w x y l sx Zx ox sy Zy oy) (hb : Below w.heap.size w w') : S2 w0 w' x y l sx Zx ox sy Zy oy := by
  obtain ⟨Fx, Fy, h1, h2, h3, h4, h5⟩ := h.ex
  exact ⟨⟨Fx, Fy, h1.up hb, h2.up hb, h3, h4, h5⟩, h.bl.trans (hb.mono h.bl.size)⟩
theorem S2.of {w0 w w' : World} {x y : Nat} {l : Int} {sx : Value} {Zx : List Kp} {ox : Kp} {sy : Value} {Zy : List Kp} {oy : Kp} (h : St w0 w x l sx Zx ox) (hb : Below w.heap.size w w') (hy : InZ w' y (fun i => i = y) l sy Zy oy) (hlt : w.heap.size ≤ y) : S2 w0 w' x y l sx Zx ox sy Zy oy := by
  obtain ⟨F, h1, h2⟩ := h.ex
  exact ⟨⟨F, _, h1.up hb, hy, h2, fun i e => by subst e; exact Nat.le_trans h.bl.size hlt, fun i q e => by subst e; have := h1.lt _ q; omega⟩, h.bl.trans (hb.mono h.bl.size)⟩
theorem S2.chg {w0 w w' : World} {x y : Nat} {l : Int} {sx' : Value} {Zx' : List Kp} {ox' : Kp} {sy : Value} {Zy : List Kp} {oy : Kp} {Fx Fy : Nat → Prop} (hbl : Below w0.heap.size w0 w) (h2 : InZ w y Fy l sy Zy oy) (h3 : ∀ i, Fx i → w0.heap.size ≤ i) (h4 : ∀ i, Fy i → w0.heap.size ≤ i) (h5 : ∀ i, Fx i → ¬ Fy i) (hi : InZ w' x (Mo w w' Fx) l sx' Zx' ox') (hf : Fr Fx w w') : S2 w0 w' x y l sx' Zx' ox' sy Zy oy := by
  refine ⟨⟨_, Fy, hi, h2.frame hf.size fun i q => hf.block i (h2.lt i q) fun r => h5 i r q, fun i q => ?_, h4, fun i q r => ?_⟩, hbl.trans (hf.below hbl.size h3)⟩
  · rcases q with q | q
    · exact h3 i q
    · exact Nat.le_trans hbl.size q.1
  · have := h2.lt i r
    rcases q with q | q
    · exact h5 i q r
    · have := q.1
      omega
theorem S2.good {w0 w : World} {x y : Nat} {l : Int} {sx : Value} {Zx : List Kp} {ox : Kp} {sy : Value} {Zy : List Kp} {oy : Kp} (h : S2 w0 w x y l sx Zx ox sy Zy oy) (hl : 1 ≤ l) (hto : ox.up ≤ 1000000) (n : Nat) (hn : n = ox.up + 1) (t : Int) (ht : T40 t) :
    Calls Try.prog 18 #[.pointer (some ⟨x, 0, none⟩), .int .u64 (n : Int), .agg (fc t)] w fun e w' => e = .returned (.int .i64 0) ∧ ∃ v, S2 w0 w' x y l sx Zx { num := ox.num, fr := ox.fr, up := ox.up + 1, v := v, ts := ox.ts ++ [t] } sy Zy oy := by
  obtain ⟨Fx, Fy, h1, h2, h3, h4, h5⟩ := h.ex
  refine (take_good w x Fx l sx Zx ox h1 hl hto n hn t ht).mono ?_
  rintro e w' ⟨he, hT⟩
  obtain ⟨v, hv⟩ := hT.ex
  exact ⟨he, v, S2.chg h.bl h2 h3 h4 h5 hv hT.fr⟩
theorem S2.old {w0 w : World} {x y : Nat} {l : Int} {sx : Value} {Zx : List Kp} {ox : Kp} {sy : Value} {Zy : List Kp} {oy : Kp} (h : S2 w0 w x y l sx Zx ox sy Zy oy) (hl : 1 ≤ l) (hto : ox.up ≤ 1000000) (n : Nat) (hn : n < ox.up + 1) (t : Int) :
    Calls Try.prog 18 #[.pointer (some ⟨x, 0, none⟩), .int .u64 (n : Int), .agg (fc t)] w fun e w' => e = .returned (.int .i64 170) ∧ S2 w0 w' x y l sx Zx ox sy Zy oy := by
  obtain ⟨Fx, Fy, h1, h2, h3, h4, h5⟩ := h.ex
  exact (take_old w x Fx l sx Zx ox h1 hl hto n hn t).mono fun _ _ ⟨he, hb⟩ => ⟨he, h.up hb⟩
theorem S2.sealNone {w0 w : World} {x y : Nat} {l : Int} {sx : Value} {Zx : List Kp} {ox : Kp} {sy : Value} {Zy : List Kp} {oy : Kp} (h : S2 w0 w x y l sx Zx ox sy Zy oy) (hl : 1 ≤ l) (hn : ox.up = ox.fr) :
    Calls Try.prog 20 #[.pointer (some ⟨x, 0, none⟩)] w fun e w' => e = .returned (.tuple #[.agg #[.int .i64 0, .int .u64 0, .int .u64 0, nl], .int .i64 120]) ∧ S2 w0 w' x y l sx Zx ox sy Zy oy := by
  obtain ⟨Fx, Fy, h1, h2, h3, h4, h5⟩ := h.ex
  exact (seal_none w x Fx l sx Zx ox h1 hl hn).mono fun _ _ ⟨he, hb⟩ => ⟨he, h.up hb⟩
theorem S2.sealGood {w0 w : World} {x y : Nat} {l : Int} {sx : Value} {Zx : List Kp} {ox : Kp} {sy : Value} {Zy : List Kp} {oy : Kp} (h : S2 w0 w x y l sx Zx ox sy Zy oy) (hl : 1 ≤ l ∧ l ≤ 1099511627776) (hn : ox.fr < ox.up) (hZ : Zx.length ≤ 1000000) (hup : ox.up ≤ 100000) (hnum : 0 ≤ ox.num ∧ ox.num ≤ 1000000) :
    Calls Try.prog 20 #[.pointer (some ⟨x, 0, none⟩)] w fun e w' => ∃ a c ss, Chks l ox.ts ss ∧ e = .returned (.tuple #[.agg #[.int .i64 ox.num, .int .u64 (ox.fr : Int), .int .u64 (ox.up : Int), .slice a ss.length c], .int .i64 0]) ∧ ∃ sx', S2 w0 w' x y l sx' (Zx ++ [ox]) { num := ox.num + 1, fr := ox.up, up := ox.up, v := nl, ts := [] } sy Zy oy := by
  obtain ⟨Fx, Fy, h1, h2, h3, h4, h5⟩ := h.ex
  refine (seal_good w x Fx l sx Zx ox h1 hl hn hZ hup hnum).mono ?_
  rintro e w' ⟨v, he, hS, hC⟩
  obtain ⟨sv', hI⟩ := hS.ex
  obtain ⟨ss', gv, k1, k2, k3⟩ := hC
  obtain ⟨a, c, hv⟩ := own_sl k2
  subst hv
  exact ⟨a, c, ss', k1, he, sv', S2.chg h.bl h2 h3 h4 h5 hI hS.fr⟩
theorem S2.rel_ok {w0 w : World} {x y : Nat} {l : Int} {sx : Value} {p : Kp} {Zx : List Kp} {ox : Kp} {sy : Value} {Zy : List Kp} {oy : Kp} (h : S2 w0 w x y l sx (p :: Zx) ox sy Zy oy) (hl : 1 ≤ l) (num : Int) (hn : num = p.num) (hlt : p.num < ox.num) :
    Calls Try.prog 22 #[.pointer (some ⟨x, 0, none⟩), .int .i64 num] w fun e w' => e = .returned (.int .i64 0) ∧ ∃ sx', S2 w0 w' x y l sx' Zx ox sy Zy oy := by
  obtain ⟨Fx, Fy, h1, h2, h3, h4, h5⟩ := h.ex
  refine (release_ok w x Fx l sx p Zx ox h1 hl num hn hlt).mono ?_
  rintro e w' ⟨he, ⟨sv', hi⟩, hf⟩
  refine ⟨he, sv', ⟨⟨Fx, Fy, hi, h2.frame hf.size fun i q => hf.block i (h2.lt i q) fun r => h5 i r q, h3, h4, h5⟩, h.bl.trans (hf.below h.bl.size h3)⟩⟩
/-- Seal, and what it leaves of a block made since. -/
theorem S2.sealAt {w0 w9 w : World} {x y : Nat} {l : Int} {sx : Value} {Zx : List Kp} {ox : Kp} {sy : Value} {Zy : List Kp} {oy : Kp} (h : S2 w0 w9 x y l sx Zx ox sy Zy oy) (hb : Below w9.heap.size w9 w) (g : Nat) (hg1 : w9.heap.size ≤ g) (hg2 : g < w.heap.size) (hl : 1 ≤ l ∧ l ≤ 1099511627776) (hn : ox.fr < ox.up) (hZ : Zx.length ≤ 1000000) (hup : ox.up ≤ 100000) (hnum : 0 ≤ ox.num ∧ ox.num ≤ 1000000) :
    Calls Try.prog 20 #[.pointer (some ⟨x, 0, none⟩)] w fun e w' => ∃ a c ss, Chks l ox.ts ss ∧ e = .returned (.tuple #[.agg #[.int .i64 ox.num, .int .u64 (ox.fr : Int), .int .u64 (ox.up : Int), .slice a ss.length c], .int .i64 0]) ∧ (∃ sx', S2 w0 w' x y l sx' (Zx ++ [ox]) { num := ox.num + 1, fr := ox.up, up := ox.up, v := nl, ts := [] } sy Zy oy) ∧ w'.heap[g]? = w.heap[g]? := by
  obtain ⟨Fx, Fy, h1, h2, h3, h4, h5⟩ := h.ex
  refine (seal_good w x Fx l sx Zx ox (h1.up hb) hl hn hZ hup hnum).mono ?_
  rintro e w' ⟨v, he, hS, hC⟩
  obtain ⟨sv', hI⟩ := hS.ex
  obtain ⟨ss', gv, k1, k2, k3⟩ := hC
  obtain ⟨a, c, hv⟩ := own_sl k2
  subst hv
  exact ⟨a, c, ss', k1, he, ⟨sv', S2.chg (h.bl.trans (hb.mono h.bl.size)) (h2.up hb) h3 h4 h5 hI hS.fr⟩, hS.fr.block g hg2 fun q => by have := h1.lt g q; omega⟩
theorem S2.relAt {w0 w9 w : World} {x y : Nat} {l : Int} {sx : Value} {p : Kp} {Zx : List Kp} {ox : Kp} {sy : Value} {Zy : List Kp} {oy : Kp} (h : S2 w0 w9 x y l sx (p :: Zx) ox sy Zy oy) (hb : Below w9.heap.size w9 w) (g : Nat) (hg1 : w9.heap.size ≤ g) (hg2 : g < w.heap.size) (hl : 1 ≤ l) (num : Int) (hn : num = p.num) (hlt : p.num < ox.num) :
    Calls Try.prog 22 #[.pointer (some ⟨x, 0, none⟩), .int .i64 num] w fun e w' => e = .returned (.int .i64 0) ∧ (∃ sx', S2 w0 w' x y l sx' Zx ox sy Zy oy) ∧ w'.heap[g]? = w.heap[g]? := by
  obtain ⟨Fx, Fy, h1, h2, h3, h4, h5⟩ := h.ex
  have hbl := h.bl.trans (hb.mono h.bl.size)
  have h2' := h2.up hb
  refine (release_ok w x Fx l sx p Zx ox (h1.up hb) hl num hn hlt).mono ?_
  rintro e w' ⟨he, ⟨sv', hi⟩, hf⟩
  refine ⟨he, ⟨sv', ⟨⟨Fx, Fy, hi, h2'.frame hf.size fun i q => hf.block i (h2'.lt i q) fun r => h5 i r q, h3, h4, h5⟩, hbl.trans (hf.below hbl.size h3)⟩⟩, hf.block g hg2 fun q => by have := h1.lt g q; omega⟩
end Go.Proofs.Ytmnlkmgpikilbaa
