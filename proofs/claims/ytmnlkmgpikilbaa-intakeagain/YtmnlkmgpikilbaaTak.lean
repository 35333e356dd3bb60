/- Take. -/
import Derived.Test.YtmnlkmgpikilbaaInZ
namespace Go.Proofs.Ytmnlkmgpikilbaa
open Go.RowKit Go.Maps Go.Sort
set_option linter.unusedVariables false

/-- Blocks that were there, and new ones. -/
abbrev Mo (w w' : World) (F : Nat → Prop) : Nat → Prop := fun i => F i ∨ (w.heap.size ≤ i ∧ i < w'.heap.size)
theorem InZ.mono {w : World} {x : Nat} {F G : Nat → Prop} {l : Int} {sv : Value} {Z : List Kp} {o : Kp} (h : InZ w x F l sv Z o) (hF : ∀ i, F i → G i) (hG : ∀ i, G i → i < w.heap.size) : InZ w x G l sv Z o :=
  ⟨h.b, hF _ h.f, h.s, fun r hr => hF r (h.fs r hr), fun p hp => (h.e p hp).mono hF, h.eo.mono hF, h.ap, hG⟩
theorem row_ne {w : World} {base e k n g : Nat} {v : Value} {xs : List Value} {t : TypeId} {cs : Array Value} (h : w.ownsRow base e k v n xs) (hb : BxA w g t cs) (hne : t ≠ e) : v.ownBlock ≠ some g := fun q => by
  rcases h.2 with ⟨h1, _⟩ | ⟨g', cap, cur, h1, _, h3, _⟩
  · rw [h1] at q; cases q
  · rw [h1] at q
    have : g' = g := by simpa [Value.ownBlock] using q
    subst this
    unfold BxA at hb
    rw [hb] at h3
    injection h3 with h3
    injection h3 with _ h4
    exact hne h4
/-- A fact was taken. -/
structure TkO (w w' : World) (x : Nat) (F : Nat → Prop) (l : Int) (sv : Value) (Z : List Kp) (o : Kp) (t : Int) : Prop where
  ex : ∃ v', InZ w' x (Mo w w' F) l sv Z { num := o.num, fr := o.fr, up := o.up + 1, v := v', ts := o.ts ++ [t] }
  fr : Fr F w w'
theorem InZ.took {w : World} {x : Nat} {F : Nat → Prop} {l : Int} {sv : Value} {Z : List Kp} {o : Kp} (h : InZ w x F l sv Z o) (t : Int) (ht : T40 t) {w1 : World} {v1 : Value} (hown : w1.ownsRow 0 38 3 v1 (o.ts.length + 1) (fcs o.ts ++ fc1 t)) (hg : w.grownBy w1 o.v.ownBlock) (hp : v1.ownBlock = o.v.ownBlock ∨ ∃ g, v1.ownBlock = some g ∧ w.heap.size ≤ g) :
    TkO w ((w1.setCell ⟨x, 8, none⟩ v1).setCell ⟨x, 6, none⟩ (.int .u64 ((o.up + 1 : Nat) : Int))) x F l sv Z o t := by
  have hxo : o.v.ownBlock ≠ some x := row_ne h.eo.o h.b (by decide)
  have hxs : sv.ownBlock ≠ some x := h.s.ne h.b (by decide)
  have hb1 : BxA w1 x 84 (ixc l sv o) := by have := h.b; unfold BxA at this ⊢; rw [hg.block x h.b.lt fun e => hxo e.symm]; exact this
  have hb2 := (hb1.set 8 v1).set 6 (.int .u64 ((o.up + 1 : Nat) : Int))
  have hx1 : v1.ownBlock ≠ some x := row_ne hown hb1 (by decide)
  obtain ⟨w2, hw2⟩ : ∃ w2, w2 = (w1.setCell ⟨x, 8, none⟩ v1).setCell ⟨x, 6, none⟩ (.int .u64 ((o.up + 1 : Nat) : Int)) := ⟨_, rfl⟩
  have hot : ∀ j, j ≠ x → w2.heap[j]? = w1.heap[j]? := fun j hj => by rw [hw2, heap_setCell_other _ _ _ _ hj, heap_setCell_other _ _ _ _ hj]
  have hg2 : w1.grownBy w2 (some x) := by rw [hw2]; exact grown_trans grown_setCell grown_setCell
  have hsz : w2.heap.size = w1.heap.size := by rw [hw2]; simp
  rw [← hw2] at hb2 ⊢
  have hk : ∀ r, r < w.heap.size → r ≠ x → o.v.ownBlock ≠ some r → w2.heap[r]? = w.heap[r]? := fun r h1 h2 h3 => by rw [hot r h2]; exact hg.block r h1 fun e => h3 e.symm
  refine ⟨⟨v1, hb2, .inl h.f, h.s.blk fun r hr => hk r (h.s.lt r hr).2 (fun e => hxs (e ▸ hr)) (fun e => h.s.diff h.eo.o (by decide) r hr e), fun r hr => .inl (h.fs r hr), fun p hp' => ?_, ⟨?_, fun r hr => ?_, ?_, fun u hu => ?_⟩, fun p hp' b hb => ?_, fun i hi => ?_⟩, ?_⟩
  · have q := h.e p hp'
    exact (q.frame fun r hr => hk r (World.ownsRow.lt q.o r hr).2 (fun e => row_ne q.o h.b (by decide) (e ▸ hr)) fun e => h.ap p hp' r e hr).mono fun i => .inl
  · simp only [List.length_append, List.length_singleton, fcs_append]
    exact own_blk hown fun r hr => hot r fun e => hx1 (e ▸ hr)
  · rcases hp with e | ⟨g, e, hge⟩
    · exact .inl (h.eo.fv r (e ▸ hr))
    · simp only at hr
      rw [e] at hr
      injection hr with hr
      subst hr
      exact .inr ⟨hge, by rw [hsz]; exact (World.ownsRow.lt hown _ e).2⟩
  · have := h.eo.rg
    simp only [List.length_append, List.length_singleton]
    omega
  · rcases List.mem_append.1 hu with q | q
    · exact h.eo.t40 u q
    · simp at q; subst q; exact ht
  · simp only at hb
    rcases hp with e | ⟨g, e, hge⟩
    · exact h.ap p hp' b (e ▸ hb)
    · rw [e] at hb
      injection hb with hb
      subst hb
      intro e2
      have := (World.ownsRow.lt (h.e p hp').o _ e2).2
      omega
  · rw [hsz]
    rcases hi with q | q
    · exact Nat.lt_of_lt_of_le (h.lt i q) hg.size
    · omega
  · exact (Fr.of_grown (F := F) hg fun j hj => .inl (h.eo.fv j hj)).trans (Fr.of_grown (F := F) hg2 fun j hj => .inl (by injection hj with hj; subst hj; exact h.f)) fun _ _ q => q
theorem take_old (w : World) (x : Nat) (F : Nat → Prop) (l : Int) (sv : Value) (Z : List Kp) (o : Kp) (h : InZ w x F l sv Z o) (hl : 1 ≤ l) (hto : o.up ≤ 1000000) (n : Nat) (hn : n < o.up + 1) (t : Int) :
    Calls Try.prog 18 #[.pointer (some ⟨x, 0, none⟩), .int .u64 (n : Int), .agg (fc t)] w fun e w' => e = .returned (.int .i64 170) ∧ Below w.heap.size w w' := by
  have h2 := h.up ((Below.refl _ _).alloc (Nat.le_refl _) (.cells (fc t) 38))
  have kM := made_any _ x F l sv Z o h2 hl
  have kN := next_any _ x F l sv Z o h2 hl hto
  obtain ⟨m, hm⟩ : ∃ m, m = o.up + 1 := ⟨_, rfl⟩
  rw [← hm] at kN hn
  have hlt : (n : Int) < (m : Int) := by omega
  clear h h2 hm hn
  go_enter Try.func18, Try.ntmps18
  go_wp2_with (first
    | (go_at_call 33; refine kM.mono ?_; rintro e w1 ⟨he1, hw1⟩; have hw1 := hw1.symm; subst he1; subst hw1)
    | (go_at_call 14; refine kN.mono ?_; rintro e w1 ⟨he1, hw1⟩; have hw1 := hw1.symm; subst he1; subst hw1))
  go_ret
  exact ⟨rfl, (Below.refl _ _).alloc (Nat.le_refl _) _⟩
theorem take_gap (w : World) (x : Nat) (F : Nat → Prop) (l : Int) (sv : Value) (Z : List Kp) (o : Kp) (h : InZ w x F l sv Z o) (hl : 1 ≤ l) (hto : o.up ≤ 1000000) (n : Nat) (hn : o.up + 1 < n) (t : Int) :
    Calls Try.prog 18 #[.pointer (some ⟨x, 0, none⟩), .int .u64 (n : Int), .agg (fc t)] w fun e w' => e = .returned (.int .i64 171) ∧ Below w.heap.size w w' := by
  have h2 := h.up ((Below.refl _ _).alloc (Nat.le_refl _) (.cells (fc t) 38))
  have kM := made_any _ x F l sv Z o h2 hl
  have kN := next_any _ x F l sv Z o h2 hl hto
  obtain ⟨m, hm⟩ : ∃ m, m = o.up + 1 := ⟨_, rfl⟩
  rw [← hm] at kN hn
  have hlt : ¬ (n : Int) < (m : Int) := by omega
  have hgt : (m : Int) < (n : Int) := by omega
  clear h h2 hm hn
  go_enter Try.func18, Try.ntmps18
  go_wp2_with (first
    | (go_at_call 33; refine kM.mono ?_; rintro e w1 ⟨he1, hw1⟩; have hw1 := hw1.symm; subst he1; subst hw1)
    | (go_at_call 14; refine kN.mono ?_; rintro e w1 ⟨he1, hw1⟩; have hw1 := hw1.symm; subst he1; subst hw1))
  go_ret
  exact ⟨rfl, (Below.refl _ _).alloc (Nat.le_refl _) _⟩
theorem below2 {w W w3 : World} (hA : Below w.heap.size w W) (h3 : Below W.drew.heap.size W.drew w3) : Below w.heap.size w w3 := hA.trans (((Grows.drew W).below.trans h3).mono hA.size)
/-- A time below 0. -/
theorem check_neg (t : Int) (ht : t < 0) (w : World) : Calls Try.prog 37 #[.agg #[.int .i64 0, .int .i64 0], .agg (fc t)] w fun e w' => e = .returned (.int .i64 40) ∧ Below w.heap.size w w' := by
  obtain ⟨W, hW⟩ : ∃ W, W = (w.alloc (.cells #[.int .i64 0, .int .i64 0] 23)).alloc (.cells (fc t) 38) := ⟨_, rfl⟩
  have hB : Below w.heap.size w W := by rw [hW]; exact ((Below.refl _ _).alloc (Nat.le_refl _) _).alloc (by simp) _
  have s1 : BxA W w.heap.size 23 #[.int .i64 0, .int .i64 0] := by rw [hW]; exact bx_up (BxA.new _ _ _) ((Below.refl _ _).alloc (Nat.le_refl _) _)
  have s2 : BxA W (w.heap.size + 1) 38 (fc t) := by
    have := BxA.new (w.alloc (.cells #[.int .i64 0, .int .i64 0] 23)) 38 (fc t)
    rw [hW, show w.heap.size + 1 = (w.alloc (.cells #[.int .i64 0, .int .i64 0] 23)).heap.size by simp]
    exact this
  have d0 : W.cell? ⟨w.heap.size, 0, none⟩ = some (.int .i64 0) := s1.cell 0 _ rfl
  have d1 : W.cell? ⟨w.heap.size, 1, none⟩ = some (.int .i64 0) := s1.cell 1 _ rfl
  have kF := fine_zero W
  have HB := hide hB
  have HS1 := hide s1
  have HS2 := hide s2
  clear hB s1 s2
  go_enter Try.func37, Try.ntmps37
  go_upto_region 1 with fail
  rw [← hW]
  clear hW
  go_wp2_with fail
  go_at_call 25
  refine kF.mono ?_
  rintro e w1 ⟨he1, hg1⟩
  subst he1
  have q1 := bx_up HS1.out hg1.below
  have q2 := bx_up HS2.out hg1.below
  have e0 : w1.cell? ⟨w.heap.size, 0, none⟩ = some (.int .i64 0) := q1.cell 0 _ rfl
  have e1 : w1.cell? ⟨w.heap.size, 1, none⟩ = some (.int .i64 0) := q1.cell 1 _ rfl
  have f0 : w1.cell? ⟨w.heap.size + 1, 0, none⟩ = some (.int .i64 t) := q2.cell 0 _ rfl
  have f1 : w1.cell? ⟨w.heap.size + 1, 1, none⟩ = some nl := q2.cell 1 _ rfl
  have f2 : w1.cell? ⟨w.heap.size + 1, 2, none⟩ = some nl := q2.cell 2 _ rfl
  have HG1 : Hid (Below w.heap.size w w1) := hide (HB.out.trans (hg1.below.mono HB.out.size))
  clear hg1 q1 q2 d0 d1 kF
  go_wp2_with fail
  go_ret
  exact ⟨rfl, HG1.out⟩
set_option maxRecDepth 20000 in
set_option maxHeartbeats 2000000 in
theorem take_neg (w : World) (x : Nat) (F : Nat → Prop) (l : Int) (sv : Value) (Z : List Kp) (o : Kp) (h : InZ w x F l sv Z o) (hl : 1 ≤ l) (hto : o.up ≤ 1000000) (n : Nat) (hn : n = o.up + 1) (t : Int) (ht : t < 0) :
    Calls Try.prog 18 #[.pointer (some ⟨x, 0, none⟩), .int .u64 (n : Int), .agg (fc t)] w fun e w' => e = .returned (.int .i64 40) ∧ Below w.heap.size w w' := by
  have h2 := h.up ((Below.refl _ _).alloc (Nat.le_refl _) (.cells (fc t) 38))
  have kM := made_any _ x F l sv Z o h2 hl
  have kN := next_any _ x F l sv Z o h2 hl hto
  rw [← hn] at kN
  have hlt : ¬ (n : Int) < (n : Int) := by omega
  have hnb : ¬ (n : Int) = 18446744073709551615 := by omega
  have c0 : (w.alloc (.cells (fc t) 38)).cell? ⟨x, 0, none⟩ = some (.int .i64 0) := h2.b.cell 0 _ rfl
  have c1 : (w.alloc (.cells (fc t) 38)).cell? ⟨x, 1, none⟩ = some (.int .i64 0) := h2.b.cell 1 _ rfl
  clear h h2 hn hto
  go_enter Try.func18, Try.ntmps18
  go_upto_region 10 with (first
    | (go_at_call 33; refine kM.mono ?_; rintro e w1 ⟨he1, hw1⟩; have hw1 := hw1.symm; subst he1; subst hw1)
    | (go_at_call 14; refine kN.mono ?_; rintro e w1 ⟨he1, hw1⟩; have hw1 := hw1.symm; subst he1; subst hw1))
  go_region_with (go_at_call 37; refine (check_neg t ht _).mono ?_; rintro e w3 ⟨he3, hb3⟩; subst he3)
  all_goals (go_wp2_with fail; go_ret)
  all_goals exact ⟨rfl, below2 ((Below.refl _ _).alloc (Nat.le_refl _) _) hb3⟩
theorem TkO.from {w w5 w2 : World} {x : Nat} {F : Nat → Prop} {l : Int} {sv : Value} {Z : List Kp} {o : Kp} {t : Int} (h : TkO w5 w2 x F l sv Z o t) (hb : Below w.heap.size w w5) : TkO w w2 x F l sv Z o t := by
  obtain ⟨v, hv⟩ := h.ex
  exact ⟨⟨v, hv.mono (fun i hi => hi.elim .inl fun q => .inr ⟨Nat.le_trans hb.size q.1, q.2⟩) fun i hi => hi.elim (fun q => hv.lt i (.inl q)) fun q => q.2⟩, (Fr.of_below hb).trans h.fr fun _ _ q => q⟩
set_option maxRecDepth 20000 in
set_option maxHeartbeats 4000000 in
theorem take_good (w : World) (x : Nat) (F : Nat → Prop) (l : Int) (sv : Value) (Z : List Kp) (o : Kp) (h : InZ w x F l sv Z o) (hl : 1 ≤ l) (hto : o.up ≤ 1000000) (n : Nat) (hn : n = o.up + 1) (t : Int) (ht : T40 t) :
    Calls Try.prog 18 #[.pointer (some ⟨x, 0, none⟩), .int .u64 (n : Int), .agg (fc t)] w fun e w' => e = .returned (.int .i64 0) ∧ TkO w w' x F l sv Z o t := by
  obtain ⟨W, hW⟩ : ∃ W, W = w.alloc (.cells (fc t) 38) := ⟨_, rfl⟩
  have hbA : Below w.heap.size w W := by rw [hW]; exact (Below.refl _ _).alloc (Nat.le_refl _) _
  have hT : BxA W w.heap.size 38 (fc t) := by rw [hW]; exact BxA.new _ _ _
  have h2 := h.up hbA
  have kM := made_any _ x F l sv Z o h2 hl
  have kN := next_any _ x F l sv Z o h2 hl hto
  obtain ⟨i0, z0, hi0, hz0, hz1, hz2, hz3⟩ := info_partsI Try.info_fctI
  rw [← hn] at kN
  have hlt : ¬ (n : Int) < (n : Int) := by omega
  have hnb : ¬ (n : Int) = 18446744073709551615 := by omega
  have hmax : o.ts.length ≤ 1000000 := by have := h.eo.rg; omega
  obtain ⟨va, vc, hv⟩ := own_sl h.eo.o
  obtain ⟨K, hK⟩ : ∃ K, K = o.ts.length := ⟨_, rfl⟩
  rw [← hK] at hv hmax
  have c0 : W.cell? ⟨x, 0, none⟩ = some (.int .i64 0) := h2.b.cell 0 _ rfl
  have c1 : W.cell? ⟨x, 1, none⟩ = some (.int .i64 0) := h2.b.cell 1 _ rfl
  have t0 : W.cell? ⟨w.heap.size, 0, none⟩ = some (.int .i64 t) := hT.cell 0 _ rfl
  have t1 : W.cell? ⟨w.heap.size, 1, none⟩ = some nl := hT.cell 1 _ rfl
  have t2 : W.cell? ⟨w.heap.size, 2, none⟩ = some nl := hT.cell 2 _ rfl
  have H := hide h
  have HBA := hide hbA
  have HT := hide hT
  have HV := hide hv
  have HK := hide hK
  have HN := hide hn
  clear h h2 hn hto hbA hT hv hK
  go_enter Try.func18, Try.ntmps18
  go_upto_region 1 with fail
  rw [← hW]
  clear hW
  go_upto_region 10 with (first
    | (go_at_call 33; refine kM.mono ?_; rintro e w1 ⟨he1, hw1⟩; have hw1 := hw1.symm; subst he1; subst hw1)
    | (go_at_call 14; refine kN.mono ?_; rintro e w1 ⟨he1, hw1⟩; have hw1 := hw1.symm; subst he1; subst hw1))
  go_region_with (go_at_call 37; refine (check_ok t ht _).mono ?_; rintro e w3 ⟨he3, hb3⟩; subst he3)
  all_goals (
    have HB3 : Hid (Below w.heap.size w w3) := hide (below2 HBA.out hb3)
    have HB3W : Hid (Below W.heap.size W w3) := hide ((Grows.drew W).below.trans hb3)
    have HZ3 := hide (H.out.up HB3.out)
    have c8 : w3.cell? ⟨x, 8, none⟩ = some (.slice va K vc) := by rw [← HV.out]; exact HZ3.out.b.cell 8 _ rfl
    have HT3 := hide (bx_up HT.out HB3W.out)
    clear c0 c1 t0 t1 t2 kM kN hb3
    have t0 : w3.cell? ⟨w.heap.size, 0, none⟩ = some (.int .i64 t) := HT3.out.cell 0 _ rfl
    have t1 : w3.cell? ⟨w.heap.size, 1, none⟩ = some nl := HT3.out.cell 1 _ rfl
    have t2 : w3.cell? ⟨w.heap.size, 2, none⟩ = some nl := HT3.out.cell 2 _ rfl
    go_upto_region 13 with fail)
  all_goals go_region_law (first
    | (go_simp; go_at_call 38; refine (copied_plain t _).mono ?_; rintro e w4 ⟨he4, hg4⟩; subst he4; have HG4 := hide ((Grows.drew w3).trans hg4); have HZ4 := hide (HZ3.out.up HG4.out.below); have c8 : w4.cell? ⟨x, 8, none⟩ = some (.slice va K vc) := (by rw [← HV.out]; exact HZ4.out.b.cell 8 _ rfl); have c8' : (w4.alloc (.cells #[.int .i64 t, nl, nl] 38)).cell? ⟨x, 8, none⟩ = some (.slice va K vc) := cell_upB ((Below.refl _ w4).alloc (Nat.le_refl _) _) c8; clear hg4)
    | (have HZ5 := hide (HZ4.out.up ((Below.refl _ _).alloc (Nat.le_refl _) (.cells (fc t) 38))); have HB5 := hide (HB3.out.trans ((HG4.out.below.trans (((Below.refl _ w4).alloc (Nat.le_refl _) (.cells (fc t) 38)).mono HG4.out.below.size)).mono HB3.out.size)); have HL5 : Hid (BxA (w4.alloc (.cells (fc t) 38)) w4.heap.size 38 (fc t)) := hide (BxA.new _ _ _); refine step_appN rfl (.tmp 39) (.tmp 42) 43 rfl 0 38 i0 z0 3 56 Try.underlying43 hi0 hz0 hz2 hz3 hz1 (by decide) (.slice va K vc) K (fcs o.ts) rfl (by have := HZ5.out.eo.o; rw [HV.out, ← HK.out] at this; exact this) (.slice (some ⟨w4.heap.size, 0, none⟩) 1 1) 1 (fc1 t) rfl (litF HL5.out) (fun u hu => by simp only [fc1, List.mem_cons, List.not_mem_nil, or_false] at hu; rcases hu with rfl | rfl | rfl <;> rfl) (by unfold maxLen; omega) (by omega) (Nat.zero_le _) ?_; intro v6 w6 o6 g6 p6; rw [← HV.out] at g6 p6; obtain ⟨a6, q6, hx6⟩ := own_sl o6; subst hx6; have HTK := hide (HZ5.out.took t ht (by rw [← HK.out]; exact o6) g6 p6); have hb6 : BxA w6 x 84 (ixc l sv o) := (by have := HZ5.out.b; unfold BxA at this ⊢; rw [g6.block x HZ5.out.b.lt fun e => row_ne HZ5.out.eo.o HZ5.out.b (by decide) e.symm]; exact this); have k8 : w6.cell? ⟨x, 8, none⟩ = some o.v := hb6.cell 8 _ rfl; have f8 := hb6.free 8; have k6 : w6.cell? ⟨x, 6, none⟩ = some (.int .u64 (o.up : Int)) := hb6.cell 6 _ rfl; have f6 := hb6.free 6; clear o6 g6 p6 hb6))
  all_goals (go_wp2_with fail; go_ret; exact ⟨rfl, by have := HTK.out.from HB5.out; rw [← HN.out] at this; exact this⟩)
end Go.Proofs.Ytmnlkmgpikilbaa
