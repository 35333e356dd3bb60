/- Worlds further on, and the contracts of the small functions: mayBe, keyOf, shared, meet, always. -/
import Derived.Test.YtgbmigfamefenaaTls
import Derived.Handy
import Derived.Shelf.SlSortCmp.QuietGrown
import Derived.BigQuiet
import Derived.Deep.WholeRow
import Derived.Deep.CutBlock
import Derived.Deep.DeepCutAuto
import Derived.Deep.RegionLaw
namespace Go.Proofs.Ytgbmigfamefenaa
open Go.RowKit Go.Sort
set_option linter.unusedVariables false

/-- A world further on: it has drawn, and blocks were laid behind. -/
structure Grows (w w' : World) : Prop where
  ex : ∃ q os, w' = grow (w.drewN q) os
theorem Grows.refl (w : World) : Grows w w := ⟨0, #[], by rw [grow_empty]; rfl⟩
theorem Grows.drew (w : World) : Grows w w.drew := ⟨1, #[], by rw [grow_empty]; rfl⟩
theorem Grows.alloc (w : World) (o : Obj) : Grows w (w.alloc o) := ⟨0, #[o], by rw [show w.drewN 0 = w from rfl, alloc_eq_grow]⟩
theorem Grows.trans {a b c : World} (h : Grows a b) (k : Grows b c) : Grows a c := by
  obtain ⟨q, os, rfl⟩ := h
  obtain ⟨q', os', rfl⟩ := k
  refine ⟨q + q', os ++ os', ?_⟩
  show grow (grow ((a.drewN q).drewN q') os) os' = _
  rw [grow_grow, World.drewN_drewN]
theorem Grows.below {w w' : World} (h : Grows w w') : Below w.heap.size w w' := by
  obtain ⟨q, os, rfl⟩ := h
  refine ⟨rfl, rfl, rfl, ?_, fun i hi => ?_⟩
  · rw [size_grow]; show w.heap.size ≤ w.heap.size + _; omega
  · rw [heap_grow_old _ _ (by show i < w.heap.size; omega)]; rfl
theorem modify_app {α : Type} (h os : Array α) (b : Nat) (f : α → α) (hb : h.size ≤ b) : (h ++ os).modify b f = h ++ os.modify (b - h.size) f := by
  apply Array.ext_getElem?
  intro j
  rw [Array.getElem?_modify]
  by_cases hj : j < h.size
  · rw [Array.getElem?_append_left hj, Array.getElem?_append_left hj, if_neg (by omega)]
  · rw [Array.getElem?_append_right (by omega), Array.getElem?_append_right (by omega), Array.getElem?_modify]
    by_cases e : b = j
    · rw [if_pos e, if_pos (by omega)]
    · rw [if_neg e, if_neg (by omega)]
theorem Grows.set {w w' : World} (h : Grows w w') {b i : Nat} (u : Value) (hb : w.heap.size ≤ b) : Grows w (w'.setCell ⟨b, i, none⟩ u) := by
  obtain ⟨q, os, rfl⟩ := h
  obtain ⟨f, hf⟩ : ∃ f, World.setCell (grow (w.drewN q) os) ⟨b, i, none⟩ u = { grow (w.drewN q) os with heap := (grow (w.drewN q) os).heap.modify b f } := ⟨_, rfl⟩
  rw [hf]
  refine ⟨q, os.modify (b - w.heap.size) f, ?_⟩
  unfold grow
  simp only
  rw [modify_app _ _ _ _ (show (w.drewN q).heap.size ≤ b from hb)]
  rfl
theorem gro_below (w : World) (q : Nat) (os : Array Obj) : Below w.heap.size w (Go.Sort.grow (w.drewN q) os) := Grows.below ⟨q, os, rfl⟩
theorem gro_cell {w : World} {a : Addr} {v : Value} (h : w.cell? a = some v) (nq : Nat) (os : Array Obj) : (Go.Sort.grow (w.drewN nq) os).cell? a = some v := by
  rw [(gro_below w nq os).cell (World.block_lt_of_cell? _ _ h), h]
/-- A contract that ends further on, for every world further on. -/
theorem grown_at {f : Nat} {args : Array Value} {r : Ending} {w : World} (h : ∀ w', Calls Try.prog f args w' fun e w'' => e = r ∧ Grows w' w'') (nq : Nat) (os : Array Obj) :
    Calls Try.prog f args (Go.Sort.grow (w.drewN nq) os) fun e w' => e = r ∧ ∃ q os', w' = Go.Sort.grow ((Go.Sort.grow (w.drewN nq) os).drewN q) os' :=
  (h _).mono fun _ _ ⟨he, hw⟩ => ⟨he, hw.ex⟩

/-- A segment: its set's key, its part, its core. -/
abbrev Sg := K3 × Int × Int
def sgc (s : Sg) : List Value := [.int .i64 s.1.1, .int .i64 s.1.2.1, .int .i64 s.1.2.2, .int .i64 s.2.1, .int .i64 s.2.2]
def may (s : Sg) : Bool := decide (0 ≤ s.1.1) && (decide (s.1.1 < s.1.2.1) && (decide (s.1.2.1 ≤ 1099511627776) && (decide (0 ≤ s.1.2.2) && (decide (0 ≤ s.2.1) && decide (0 ≤ s.2.2)))))
set_option maxHeartbeats 1600000 in
theorem mayBe_any (w : World) (a b c p q : Int) : Calls Try.prog 29 #[.agg #[.int .i64 a, .int .i64 b, .int .i64 c, .int .i64 p, .int .i64 q]] w fun e w' => e = .returned (.bool (may ((a, b, c), p, q))) ∧ Grows w w' := by
  have hb := Grows.alloc w (.cells #[.int .i64 a, .int .i64 b, .int .i64 c, .int .i64 p, .int .i64 q] 32)
  have HB : Hid (Grows w (w.alloc (.cells #[.int .i64 a, .int .i64 b, .int .i64 c, .int .i64 p, .int .i64 q] 32))) := hb
  unfold may
  simp only
  clear hb
  by_cases h1 : 0 ≤ a
  · rw [decide_eq_true h1, Bool.true_and]
    by_cases h2 : a < b
    · rw [decide_eq_true h2, Bool.true_and]
      by_cases h3 : b ≤ 1099511627776
      · rw [decide_eq_true h3, Bool.true_and]
        by_cases h4 : 0 ≤ c
        · rw [decide_eq_true h4, Bool.true_and]
          by_cases h5 : 0 ≤ p
          · rw [decide_eq_true h5, Bool.true_and]
            by_cases h6 : 0 ≤ q
            · rw [decide_eq_true h6]
              go_enter Try.func29, Try.ntmps29
              go_wp2_with fail
              go_ret
              exact ⟨rfl, HB.out⟩
            · rw [decide_eq_false h6]
              go_enter Try.func29, Try.ntmps29
              go_wp2_with fail
              go_ret
              exact ⟨rfl, HB.out⟩
          · rw [decide_eq_false h5, Bool.false_and]
            go_enter Try.func29, Try.ntmps29
            go_wp2_with fail
            go_ret
            exact ⟨rfl, HB.out⟩
        · rw [decide_eq_false h4, Bool.false_and]
          go_enter Try.func29, Try.ntmps29
          go_wp2_with fail
          go_ret
          exact ⟨rfl, HB.out⟩
      · rw [decide_eq_false h3, Bool.false_and]
        go_enter Try.func29, Try.ntmps29
        go_wp2_with fail
        go_ret
        exact ⟨rfl, HB.out⟩
    · rw [decide_eq_false h2, Bool.false_and]
      go_enter Try.func29, Try.ntmps29
      go_wp2_with fail
      go_ret
      exact ⟨rfl, HB.out⟩
  · rw [decide_eq_false h1, Bool.false_and]
    go_enter Try.func29, Try.ntmps29
    go_wp2_with fail
    go_ret
    exact ⟨rfl, HB.out⟩
set_option maxHeartbeats 800000 in
theorem keyOf_any (w : World) (a b c p q : Int) : Calls Try.prog 30 #[.agg #[.int .i64 a, .int .i64 b, .int .i64 c, .int .i64 p, .int .i64 q]] w fun e w' => e = .returned (kv (a, b, c)) ∧ Grows w w' := by
  unfold kv
  simp only
  go_enter Try.func30, Try.ntmps30
  go_wp2_with fail
  go_returns
  exact ⟨rfl, (Grows.alloc _ _).trans (Grows.alloc _ _)⟩
set_option maxHeartbeats 800000 in
theorem always_any (w : World) : Calls Try.prog 34 #[] w fun e w' => e = .returned (.agg #[.int .i64 0, .int .i64 1099511627776]) ∧ Grows w w' := by
  go_enter Try.func34, Try.ntmps34
  go_wp2_with fail
  go_returns
  exact ⟨rfl, Grows.alloc _ _⟩
set_option maxHeartbeats 800000 in
theorem shared_any (w : World) (a b c d : Int) : Calls Try.prog 27 #[.agg #[.int .i64 a, .int .i64 b], .agg #[.int .i64 c, .int .i64 d]] w fun e w' => e = .returned (.agg #[.int .i64 (max a c), .int .i64 (min b d)]) ∧ Grows w w' := by
  obtain ⟨x, hx⟩ : ∃ x, x = max a c := ⟨_, rfl⟩
  obtain ⟨y, hy⟩ : ∃ y, y = min b d := ⟨_, rfl⟩
  have HX : Hid (x = max a c ∧ y = min b d) := ⟨hx, hy⟩
  rw [← hx, ← hy]
  clear hx hy
  by_cases h1 : a < c
  · by_cases h2 : d < b
    · obtain ⟨rfl, rfl⟩ : x = c ∧ y = d := by have := HX.out; omega
      go_enter Try.func27, Try.ntmps27
      go_wp2_with fail
      go_returns
      exact ⟨rfl, ((Grows.alloc _ _).trans (Grows.alloc _ _)).trans (Grows.alloc _ _)⟩
    · obtain ⟨rfl, rfl⟩ : x = c ∧ y = b := by have := HX.out; omega
      go_enter Try.func27, Try.ntmps27
      go_wp2_with fail
      go_returns
      exact ⟨rfl, ((Grows.alloc _ _).trans (Grows.alloc _ _)).trans (Grows.alloc _ _)⟩
  · by_cases h2 : d < b
    · obtain ⟨rfl, rfl⟩ : x = a ∧ y = d := by have := HX.out; omega
      go_enter Try.func27, Try.ntmps27
      go_wp2_with fail
      go_returns
      exact ⟨rfl, ((Grows.alloc _ _).trans (Grows.alloc _ _)).trans (Grows.alloc _ _)⟩
    · obtain ⟨rfl, rfl⟩ : x = a ∧ y = b := by have := HX.out; omega
      go_enter Try.func27, Try.ntmps27
      go_wp2_with fail
      go_returns
      exact ⟨rfl, ((Grows.alloc _ _).trans (Grows.alloc _ _)).trans (Grows.alloc _ _)⟩
set_option maxHeartbeats 800000 in
theorem meet_any (w : World) (a b c d : Int) : Calls Try.prog 26 #[.agg #[.int .i64 a, .int .i64 b], .agg #[.int .i64 c, .int .i64 d]] w fun e w' => e = .returned (.bool (decide (max a c < min b d))) ∧ Grows w w' := by
  have kS := fun w => shared_any w a b c d
  have HG : Hid (Grows w ((w.alloc (.cells #[.int .i64 a, .int .i64 b] 24)).alloc (.cells #[.int .i64 c, .int .i64 d] 24))) := (Grows.alloc _ _).trans (Grows.alloc _ _)
  obtain ⟨x, hx⟩ : ∃ x, x = max a c := ⟨_, rfl⟩
  obtain ⟨y, hy⟩ : ∃ y, y = min b d := ⟨_, rfl⟩
  simp only [← hx, ← hy] at kS ⊢
  clear hx hy
  go_enter Try.func26, Try.ntmps26
  go_wp2_with fail
  refine (kS _).mono ?_
  rintro e w2 ⟨rfl, g2⟩
  have HG2 : Hid (Grows w w2) := HG.out.trans g2
  clear kS g2
  go_wp2_with fail
  go_ret
  exact ⟨rfl, HG2.out.trans (Grows.alloc _ _)⟩
/-- The order of numbers. -/
def ci (x y : Int) : Int := if x < y then -1 else if y < x then 1 else 0
theorem nan_any (w : World) (x : Int) : Calls Try.prog 76 #[.int .i64 x] w fun e w' => e = .returned (.bool false) ∧ w' = w := by
  have h : (x != x) = false := by simp
  go_enter Try.func76, Try.ntmps76
  go_wp2_with fail
  go_ret
  exact ⟨rfl, rfl⟩
theorem nani_any (w : World) (x : Int) : Calls Try.prog 64 #[.int .i64 x] w fun e w' => e = .returned (.bool false) ∧ w' = w := by
  have h : (x != x) = false := by simp
  go_enter Try.func64, Try.ntmps64
  go_wp2_with fail
  go_ret
  exact ⟨rfl, rfl⟩
set_option maxHeartbeats 800000 in
theorem cmp_any (w : World) (x y : Int) : Calls Try.prog 55 #[.int .i64 x, .int .i64 y] w fun e w' => e = .returned (.int .i64 (ci x y)) ∧ w' = w := by
  have k1 := nan_any w x
  have k2 := nan_any w y
  unfold ci
  by_cases h1 : x < y
  · rw [if_pos h1]
    go_enter Try.func55, Try.ntmps55
    go_wp2_with fail
    refine k1.mono ?_
    rintro e w' ⟨rfl, rfl⟩
    clear k1
    go_wp2_with fail
    refine k2.mono ?_
    rintro e w' ⟨rfl, rfl⟩
    clear k2
    go_wp2_with fail
    go_ret
    exact ⟨rfl, rfl⟩
  · rw [if_neg h1]
    by_cases h2 : y < x
    · rw [if_pos h2]
      go_enter Try.func55, Try.ntmps55
      go_wp2_with fail
      refine k1.mono ?_
      rintro e w' ⟨rfl, rfl⟩
      clear k1
      go_wp2_with fail
      refine k2.mono ?_
      rintro e w' ⟨rfl, rfl⟩
      clear k2
      go_wp2_with fail
      go_ret
      exact ⟨rfl, rfl⟩
    · rw [if_neg h2]
      go_enter Try.func55, Try.ntmps55
      go_wp2_with fail
      refine k1.mono ?_
      rintro e w' ⟨rfl, rfl⟩
      clear k1
      go_wp2_with fail
      refine k2.mono ?_
      rintro e w' ⟨rfl, rfl⟩
      clear k2
      go_wp2_with fail
      go_ret
      exact ⟨rfl, rfl⟩
set_option maxHeartbeats 800000 in
theorem cmpi_any (w : World) (x y : Int) : Calls Try.prog 56 #[.int .i64 x, .int .i64 y] w fun e w' => e = .returned (.int .i64 (ci x y)) ∧ w' = w := by
  have k1 := nani_any w x
  have k2 := nani_any w y
  unfold ci
  by_cases h1 : x < y
  · rw [if_pos h1]
    go_enter Try.func56, Try.ntmps56
    go_wp2_with fail
    refine k1.mono ?_
    rintro e w' ⟨rfl, rfl⟩
    clear k1
    go_wp2_with fail
    refine k2.mono ?_
    rintro e w' ⟨rfl, rfl⟩
    clear k2
    go_wp2_with fail
    go_ret
    exact ⟨rfl, rfl⟩
  · rw [if_neg h1]
    by_cases h2 : y < x
    · rw [if_pos h2]
      go_enter Try.func56, Try.ntmps56
      go_wp2_with fail
      refine k1.mono ?_
      rintro e w' ⟨rfl, rfl⟩
      clear k1
      go_wp2_with fail
      refine k2.mono ?_
      rintro e w' ⟨rfl, rfl⟩
      clear k2
      go_wp2_with fail
      go_ret
      exact ⟨rfl, rfl⟩
    · rw [if_neg h2]
      go_enter Try.func56, Try.ntmps56
      go_wp2_with fail
      refine k1.mono ?_
      rintro e w' ⟨rfl, rfl⟩
      clear k1
      go_wp2_with fail
      refine k2.mono ?_
      rintro e w' ⟨rfl, rfl⟩
      clear k2
      go_wp2_with fail
      go_ret
      exact ⟨rfl, rfl⟩
/-- The first that isn't 0, of three. -/
def or3 (a b c : Int) : Int := if a ≠ 0 then a else if b ≠ 0 then b else c
set_option maxHeartbeats 1600000 in
theorem or_any (w : World) (g : Nat) (a b c : Int) (h : BxA w g 3 #[.int .i64 a, .int .i64 b, .int .i64 c]) : Calls Try.prog 54 #[.slice (some ⟨g, 0, none⟩) 3 3] w fun e w' => e = .returned (.int .i64 (or3 a b c)) ∧ w' = w := by
  have c0 := h.cell 0 _ rfl
  have c1 := h.cell 1 _ rfl
  have c2 := h.cell 2 _ rfl
  unfold or3
  clear h
  by_cases ha : a = 0
  · subst ha
    rw [if_neg (by simp)]
    by_cases hb : b = 0
    · subst hb
      rw [if_neg (by simp)]
      by_cases hc : c = 0
      · subst hc
        go_enter Try.func54, Try.ntmps54
        go_wp2_with fail
        refine wp_loop_rounds 4 ?_
        rw [rounds_succ]
        go_wp2_with fail
        rw [rounds_succ]
        go_wp2_with fail
        rw [rounds_succ]
        go_wp2_with fail
        rw [rounds_succ]
        go_wp2_with fail
        go_ret
        exact ⟨rfl, rfl⟩
      · have hcz : (c != 0) = true := by simpa using hc
        go_enter Try.func54, Try.ntmps54
        go_wp2_with fail
        refine wp_loop_rounds 4 ?_
        rw [rounds_succ]
        go_wp2_with fail
        rw [rounds_succ]
        go_wp2_with fail
        rw [rounds_succ]
        go_wp2_with fail
        go_ret
        exact ⟨rfl, rfl⟩
    · have hbz : (b != 0) = true := by simpa using hb
      rw [if_pos hb]
      go_enter Try.func54, Try.ntmps54
      go_wp2_with fail
      refine wp_loop_rounds 4 ?_
      rw [rounds_succ]
      go_wp2_with fail
      rw [rounds_succ]
      go_wp2_with fail
      go_ret
      exact ⟨rfl, rfl⟩
  · have haz : (a != 0) = true := by simpa using ha
    rw [if_pos ha]
    go_enter Try.func54, Try.ntmps54
    go_wp2_with fail
    refine wp_loop_rounds 4 ?_
    rw [rounds_succ]
    go_wp2_with fail
    go_ret
    exact ⟨rfl, rfl⟩
end Go.Proofs.Ytgbmigfamefenaa
