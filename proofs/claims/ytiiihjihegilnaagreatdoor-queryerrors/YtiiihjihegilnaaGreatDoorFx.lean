/- What the texts of fact hold, over this program's numbers. -/
import Derived.Test.YtiiihjihegilnaaGreatDoorProg
import Derived.Test.YtiiihjihegilnaaGreatDoorChecked
import Derived.Sort.LotA
import Derived.WalkKit
import Derived.Below
import Derived.WalkSpells
import Derived.OwnWalk
import Derived.Laws.OwnMore
import Derived.Lib.Strings
import Derived.Shelf.SlSorted.Search
namespace Go.Proofs.YtiiihjihegilnaaGreatDoor.Fx
open Go.RowKit Go.Sort

variable {α : Type} [Inhabited α]

/-- Of two ranges the first n places are exchanged. -/
structure SwR (lo hi a b n : Nat) (d d' : Array α) : Prop where
  perm : PermIn lo hi d d'
  get : ∀ y, d'[y]! = if a ≤ y ∧ y < a + n then d[y + (b - a)]! else if b ≤ y ∧ y < b + n then d[y - (b - a)]! else d[y]!
theorem SwR.refl (lo hi a b : Nat) (d : Array α) : SwR lo hi a b 0 d d :=
  ⟨permIn_refl d lo hi, fun y => by rw [if_neg (by omega), if_neg (by omega)]⟩
variable {lt : α → α → Bool}
/-- Sorted block by block, from a on. -/
def BlkFrom (lt : α → α → Bool) (bs n a : Nat) (d : Array α) : Prop := ∀ q, a ≤ q * bs → SortedIn lt (q * bs) (min (q * bs + bs) n) d
theorem BlkFrom.two {bs n q : Nat} {d : Array α} (h : BlkFrom lt bs n (q * (2 * bs)) d) : SortedIn lt (q * (2 * bs)) (min (q * (2 * bs) + bs) n) d ∧ SortedIn lt (q * (2 * bs) + bs) (min (q * (2 * bs) + 2 * bs) n) d := by
  have e1 : 2 * q * bs = q * (2 * bs) := by rw [Nat.mul_comm 2 q, Nat.mul_assoc]
  have e2 : (2 * q + 1) * bs = q * (2 * bs) + bs := by rw [Nat.add_mul, e1, Nat.one_mul]
  have h1 := h (2 * q) (by omega)
  have h2 := h (2 * q + 1) (by omega)
  rw [e1] at h1
  rw [e2] at h2
  exact ⟨h1, by have e3 : q * (2 * bs) + bs + bs = q * (2 * bs) + 2 * bs := by omega
                rwa [e3] at h2⟩
/-- A way to compare that is an order: -1, 0, 1; 0 at the same alone. -/
structure Ord3 {α : Type} (c : α → α → Int) : Prop where
  rng : ∀ x y, c x y = -1 ∨ c x y = 0 ∨ c x y = 1
  eq : ∀ x y, c x y = 0 ↔ x = y
  anti : ∀ x y, c y x = - c x y
  tr : ∀ x y z, c x y < 0 → c y z < 0 → c x z < 0
theorem Ord3.refl {α : Type} {c : α → α → Int} (h : Ord3 c) (x : α) : c x x = 0 := (h.eq x x).2 rfl
/-- A world further on: it has drawn, and blocks were laid behind. -/
def Grows (w w' : World) : Prop := ∃ q os, w' = grow (w.drewN q) os
theorem Grows.refl (w : World) : Grows w w := ⟨0, #[], by rw [grow_empty]; rfl⟩
theorem Grows.drewN (w : World) (n : Nat) : Grows w (w.drewN n) := ⟨n, #[], by rw [grow_empty]⟩
theorem Grows.alloc (w : World) (o : Obj) : Grows w (w.alloc o) := ⟨0, #[o], by rw [show w.drewN 0 = w from rfl, alloc_eq_grow]⟩
/-- May a schema be? -/
def finB (d m : Int) : Bool := decide (0 ≤ d ∧ d ≤ 8 ∧ 0 ≤ m ∧ m ≤ 8)
theorem box_below (w : World) (o : Obj) : Below w.heap.size w (w.alloc o) := (Below.refl _ _).alloc (Nat.le_refl _) _

set_option maxHeartbeats 800000 in
theorem fine_any (w : World) (d m : Int) :
    Calls Tryz.prog 31 #[.agg #[.int .i64 d, .int .i64 m]] w fun e w' => e = .returned (.int .i64 (if finB d m = true then 0 else 1)) ∧ Below w.heap.size w w' := by
  by_cases h1 : 0 ≤ d
  · have h1n : ¬ d < 0 := by omega
    by_cases h2 : d ≤ 8
    · have h2n : ¬ 8 < d := by omega
      by_cases h3 : 0 ≤ m
      · have h3n : ¬ m < 0 := by omega
        by_cases h4 : m ≤ 8
        · have h4n : ¬ 8 < m := by omega
          have e : finB d m = true := decide_eq_true ⟨h1, h2, h3, h4⟩
          rw [e]
          clear e
          go_enter Tryz.func31, Tryz.ntmps31
          go_wp2_with fail
          go_ret
          exact ⟨rfl, box_below _ _⟩
        · have h4n : 8 < m := by omega
          have e : finB d m = false := decide_eq_false (by omega)
          rw [e]
          clear e
          go_enter Tryz.func31, Tryz.ntmps31
          go_wp2_with fail
          go_ret
          exact ⟨rfl, box_below _ _⟩
      · have h3n : m < 0 := by omega
        have e : finB d m = false := decide_eq_false (by omega)
        rw [e]
        clear e
        go_enter Tryz.func31, Tryz.ntmps31
        go_wp2_with fail
        go_ret
        exact ⟨rfl, box_below _ _⟩
    · have h2n : 8 < d := by omega
      have e : finB d m = false := decide_eq_false (by omega)
      rw [e]
      clear e
      go_enter Tryz.func31, Tryz.ntmps31
      go_wp2_with fail
      go_ret
      exact ⟨rfl, box_below _ _⟩
  · have h1n : d < 0 := by omega
    have e : finB d m = false := decide_eq_false (by omega)
    rw [e]
    clear e
    go_enter Tryz.func31, Tryz.ntmps31
    go_wp2_with fail
    go_ret
    exact ⟨rfl, box_below _ _⟩

set_option maxHeartbeats 800000 in
theorem reffine_any (w : World) (d m : Int) :
    Calls Tryz.prog 16 #[.agg #[.int .i64 d, .int .i64 m]] w fun e w' => e = .returned (.bool (finB d m)) ∧ Below w.heap.size w w' := by
  by_cases h1 : 0 ≤ d
  · have h1n : ¬ d < 0 := by omega
    by_cases h2 : d ≤ 8
    · have h2n : ¬ 8 < d := by omega
      by_cases h3 : 0 ≤ m
      · have h3n : ¬ m < 0 := by omega
        by_cases h4 : m ≤ 8
        · have h4n : ¬ 8 < m := by omega
          have e : finB d m = true := decide_eq_true ⟨h1, h2, h3, h4⟩
          rw [e]
          clear e
          go_enter Tryz.func16, Tryz.ntmps16
          go_wp2_with fail
          go_ret
          exact ⟨rfl, box_below _ _⟩
        · have h4n : 8 < m := by omega
          have e : finB d m = false := decide_eq_false (by omega)
          rw [e]
          clear e
          go_enter Tryz.func16, Tryz.ntmps16
          go_wp2_with fail
          go_ret
          exact ⟨rfl, box_below _ _⟩
      · have h3n : m < 0 := by omega
        have e : finB d m = false := decide_eq_false (by omega)
        rw [e]
        clear e
        go_enter Tryz.func16, Tryz.ntmps16
        go_wp2_with fail
        go_ret
        exact ⟨rfl, box_below _ _⟩
    · have h2n : 8 < d := by omega
      have e : finB d m = false := decide_eq_false (by omega)
      rw [e]
      clear e
      go_enter Tryz.func16, Tryz.ntmps16
      go_wp2_with fail
      go_ret
      exact ⟨rfl, box_below _ _⟩
  · have h1n : d < 0 := by omega
    have e : finB d m = false := decide_eq_false (by omega)
    rw [e]
    clear e
    go_enter Tryz.func16, Tryz.ntmps16
    go_wp2_with fail
    go_ret
    exact ⟨rfl, box_below _ _⟩


end Go.Proofs.YtiiihjihegilnaaGreatDoor.Fx
