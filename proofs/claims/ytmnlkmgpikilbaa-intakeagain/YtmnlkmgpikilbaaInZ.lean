/- An intake in memory (its facts without lists; nothing released). Plain functions. -/
import Derived.Test.YtmnlkmgpikilbaaChk
import Derived.Test.YtmnlkmgpikilbaaRwG
namespace Go.Proofs.Ytmnlkmgpikilbaa
open Go.RowKit Go.Maps Go.Sort
set_option linter.unusedVariables false

/-- What is kept of a batch. -/
structure Kp where
  num : Int
  fr : Nat
  up : Nat
  v : Value
  ts : List Int
def kpc (p : Kp) : List Value := [.int .i64 p.num, .int .u64 (p.fr : Int), .int .u64 (p.up : Int), nl, p.v]
def kpcs (Z : List Kp) : List Value := Z.flatMap kpc
theorem kpcs_append (Y Z : List Kp) : kpcs (Y ++ Z) = kpcs Y ++ kpcs Z := by simp [kpcs]
structure KOk (w : World) (F : Nat → Prop) (p : Kp) : Prop where
  o : w.ownsRow 0 38 3 p.v p.ts.length (fcs p.ts)
  fv : ∀ r, p.v.ownBlock = some r → F r
  rg : p.up = p.fr + p.ts.length
  t40 : ∀ t ∈ p.ts, T40 t
abbrev ixc (l : Int) (sv : Value) (o : Kp) : Array Value := #[.int .i64 0, .int .i64 0, .int .i64 l, sv, .int .i64 o.num, .int .u64 (o.fr : Int), .int .u64 (o.up : Int), nl, o.v]
structure InZ (w : World) (x : Nat) (F : Nat → Prop) (l : Int) (sv : Value) (Z : List Kp) (o : Kp) : Prop where
  b : BxA w x 84 (ixc l sv o)
  f : F x
  s : RowG w 0 80 5 sv Z.length (kpcs Z)
  fs : ∀ r, sv.ownBlock = some r → F r
  e : ∀ p ∈ Z, KOk w F p
  eo : KOk w F o
  ap : ∀ p ∈ Z, ∀ b, o.v.ownBlock = some b → p.v.ownBlock ≠ some b
  lt : ∀ i, F i → i < w.heap.size
theorem KOk.frame {w w' : World} {F : Nat → Prop} {p : Kp} (h : KOk w F p) (hb : ∀ r, p.v.ownBlock = some r → w'.heap[r]? = w.heap[r]?) : KOk w' F p := ⟨own_blk h.o hb, h.fv, h.rg, h.t40⟩
theorem KOk.mono {w : World} {F G : Nat → Prop} {p : Kp} (h : KOk w F p) (hF : ∀ i, F i → G i) : KOk w G p := ⟨h.o, fun r hr => hF r (h.fv r hr), h.rg, h.t40⟩
theorem InZ.frame {w w' : World} {x : Nat} {F : Nat → Prop} {l : Int} {sv : Value} {Z : List Kp} {o : Kp} (h : InZ w x F l sv Z o) (hs : w.heap.size ≤ w'.heap.size) (hb : ∀ i, F i → w'.heap[i]? = w.heap[i]?) : InZ w' x F l sv Z o :=
  ⟨by have := h.b; unfold BxA at this ⊢; rw [hb _ h.f]; exact this, h.f, h.s.blk fun r hr => hb r (h.fs r hr), h.fs, fun p hp => (h.e p hp).frame fun r hr => hb r ((h.e p hp).fv r hr), h.eo.frame fun r hr => hb r (h.eo.fv r hr), h.ap, fun i hi => Nat.lt_of_lt_of_le (h.lt i hi) hs⟩
theorem InZ.up {w w' : World} {x : Nat} {F : Nat → Prop} {l : Int} {sv : Value} {Z : List Kp} {o : Kp} (h : InZ w x F l sv Z o) (hb : Below w.heap.size w w') : InZ w' x F l sv Z o := h.frame hb.size fun i hi => hb.block i (h.lt i hi)
theorem made_any (w : World) (x : Nat) (F : Nat → Prop) (l : Int) (sv : Value) (Z : List Kp) (o : Kp) (h : InZ w x F l sv Z o) (hl : 1 ≤ l) : Calls Try.prog 33 #[.pointer (some ⟨x, 0, none⟩)] w fun e w' => e = .returned (.bool true) ∧ w' = w := by
  have c2 := h.b.cell 2 _ rfl
  have hl0 : 0 < l := by omega
  clear h
  go_enter Try.func33, Try.ntmps33
  go_wp2_with fail
  go_ret
  exact ⟨rfl, rfl⟩
theorem next_any (w : World) (x : Nat) (F : Nat → Prop) (l : Int) (sv : Value) (Z : List Kp) (o : Kp) (h : InZ w x F l sv Z o) (hl : 1 ≤ l) (hto : o.up ≤ 1000000) : Calls Try.prog 14 #[.pointer (some ⟨x, 0, none⟩)] w fun e w' => e = .returned (.int .u64 ((o.up + 1 : Nat) : Int)) ∧ w' = w := by
  have kM := made_any w x F l sv Z o h hl
  have c6 : w.cell? ⟨x, 6, none⟩ = some (.int .u64 (o.up : Int)) := h.b.cell 6 _ rfl
  obtain ⟨n, hn⟩ : ∃ n, n = o.up := ⟨_, rfl⟩
  obtain ⟨m, hm⟩ : ∃ m, m = o.up + 1 := ⟨_, rfl⟩
  have hmz : (n : Int) + 1 = (m : Int) := by omega
  rw [← hn] at c6
  rw [← hm]
  have hnb : (n : Int) ≤ 1000000 := by omega
  clear h hn hm hto
  go_enter Try.func14, Try.ntmps14
  go_wp2_with (go_at_call 33; refine kM.mono ?_; rintro e w1 ⟨he1, hw1⟩; have hw1 := hw1.symm; subst he1; subst hw1)
  go_ret
  exact ⟨rfl, rfl⟩
theorem fine_zero (w : World) : Calls Try.prog 25 #[.agg #[.int .i64 0, .int .i64 0]] w fun e w' => e = .returned (.int .i64 0) ∧ Grows w w' := by
  go_enter Try.func25, Try.ntmps25
  go_wp2_with fail
  go_ret
  exact ⟨rfl, Grows.alloc w _⟩
theorem idx_nil (f : Value) (w : World) : Calls Try.prog 52 #[nl, f] w fun e w' => e = .returned (.int .i64 (-1)) ∧ w' = w := by
  go_enter Try.func52, Try.ntmps52
  go_wp2_with fail
  refine wp_loop_rounds 1 ?_
  rw [rounds_succ]
  go_wp2_with fail
  go_ret
  exact ⟨rfl, rfl⟩
theorem cont_nil (f : Value) (w : World) : Calls Try.prog 44 #[nl, f] w fun e w' => e = .returned (.bool false) ∧ w' = w := by
  go_enter Try.func44, Try.ntmps44
  go_wp2_with (go_at_call 52; refine (idx_nil _ _).mono ?_; rintro e w1 ⟨he1, hw1⟩; have hw1 := hw1.symm; subst he1; subst hw1)
  go_ret
  exact ⟨rfl, rfl⟩
theorem check_ok (t : Int) (ht : T40 t) (w : World) : Calls Try.prog 37 #[.agg #[.int .i64 0, .int .i64 0], .agg (fc t)] w fun e w' => e = .returned (.int .i64 0) ∧ Below w.heap.size w w' := by
  have h1 : ¬ t < 0 := by have := ht.1; omega
  have h2 : ¬ 1099511627776 ≤ t := by have := ht.2; omega
  obtain ⟨W, hW⟩ : ∃ W, W = (w.alloc (.cells #[.int .i64 0, .int .i64 0] 23)).alloc (.cells (fc t) 38) := ⟨_, rfl⟩
  have hB : Below w.heap.size w W := by rw [hW]; exact ((Below.refl _ _).alloc (Nat.le_refl _) _).alloc (by simp) _
  have s1 : BxA W w.heap.size 23 #[.int .i64 0, .int .i64 0] := by rw [hW]; exact bx_up (BxA.new _ _ _) ((Below.refl _ _).alloc (Nat.le_refl _) _)
  have s2 : BxA W (w.heap.size + 1) 38 (fc t) := by
    have := BxA.new (w.alloc (.cells #[.int .i64 0, .int .i64 0] 23)) 38 (fc t)
    rw [hW, show w.heap.size + 1 = (w.alloc (.cells #[.int .i64 0, .int .i64 0] 23)).heap.size by simp]
    exact this
  have d0 : W.cell? ⟨w.heap.size, 0, none⟩ = some (.int .i64 0) := s1.cell 0 _ rfl
  have d1 : W.cell? ⟨w.heap.size, 1, none⟩ = some (.int .i64 0) := s1.cell 1 _ rfl
  have kF := fine_zero W
  have HB := hide hB
  have HS1 := hide s1
  have HS2 := hide s2
  clear hB s1 s2
  go_enter Try.func37, Try.ntmps37
  go_upto_region 1 with fail
  rw [← hW]
  clear hW
  go_wp2_with fail
  go_at_call 25
  refine kF.mono ?_
  rintro e w1 ⟨he1, hg1⟩
  subst he1
  have q1 := bx_up HS1.out hg1.below
  have q2 := bx_up HS2.out hg1.below
  have e0 : w1.cell? ⟨w.heap.size, 0, none⟩ = some (.int .i64 0) := q1.cell 0 _ rfl
  have e1 : w1.cell? ⟨w.heap.size, 1, none⟩ = some (.int .i64 0) := q1.cell 1 _ rfl
  have f0 : w1.cell? ⟨w.heap.size + 1, 0, none⟩ = some (.int .i64 t) := q2.cell 0 _ rfl
  have f1 : w1.cell? ⟨w.heap.size + 1, 1, none⟩ = some nl := q2.cell 1 _ rfl
  have f2 : w1.cell? ⟨w.heap.size + 1, 2, none⟩ = some nl := q2.cell 2 _ rfl
  have HG1 : Hid (Below w.heap.size w w1) := hide (HB.out.trans (hg1.below.mono HB.out.size))
  clear hg1 q1 q2 d0 d1 kF
  go_wp2_with (go_at_call 44; refine (cont_nil _ _).mono ?_; rintro e w2 ⟨he2, hw2⟩; have hw2 := hw2.symm; subst he2; subst hw2)
  go_ret
  exact ⟨rfl, HG1.out⟩
end Go.Proofs.Ytmnlkmgpikilbaa
