/- A heap of numbers behind a pointer, in memory: its methods by way of the interface. -/
import Derived.Test.YtnkllgpibmofiaaApp
import Derived.Test.YtnkllgpibmofiaaHMath
import Derived.BigQuiet
import Derived.Deep.QuietTactic
namespace Go.Proofs.Ytnkllgpibmofiaa
open Go.RowKit
set_option linter.unusedVariables false

/-- Numbers as cells. -/
def uv (l : List Nat) : List Value := l.map fun (z : Nat) => Value.int .u64 (z : Int)
theorem uv_length (l : List Nat) : (uv l).length = l.length := by simp [uv]
theorem uv_append (l m : List Nat) : uv (l ++ m) = uv l ++ uv m := by simp [uv]
theorem uv_one (l : List Nat) : ∀ u ∈ uv l, u.oneCell' = true := by
  intro u hu; simp [uv] at hu; obtain ⟨c, _, rfl⟩ := hu; rfl
theorem uv_get (l : List Nat) (i : Nat) (h : i < l.length) : (uv l)[i]? = some (.int .u64 (gv l i : Int)) := by
  unfold gv; simp [uv, h]
theorem uv_set (l : List Nat) (i x : Nat) : uv (l.set i x) = (uv l).set i (.int .u64 (x : Int)) := by simp [uv, List.map_set]
theorem uv_take (l : List Nat) (n : Nat) : uv (l.take n) = (uv l).take n := by simp [uv, List.map_take]

theorem mLen (a : Addr) (w : World) : (Go.method 298 137 (.pointer (some a)) "Len").run Try.prog w = (do let v ← loadVar 102 a; pure (113, v) : Sem _).run Try.prog w := by kernel_rfl
theorem mLess (a : Addr) (w : World) : (Go.method 298 137 (.pointer (some a)) "Less").run Try.prog w = (do let v ← loadVar 102 a; pure (114, v) : Sem _).run Try.prog w := by kernel_rfl
theorem mSwap (a : Addr) (w : World) : (Go.method 298 137 (.pointer (some a)) "Swap").run Try.prog w = (do let v ← loadVar 102 a; pure (115, v) : Sem _).run Try.prog w := by kernel_rfl
theorem mPush (a : Value) (w : World) : (Go.method 298 137 a "Push").run Try.prog w = .ok (117, a) w := by kernel_rfl
theorem mPop (a : Value) (w : World) : (Go.method 298 137 a "Pop").run Try.prog w = .ok (116, a) w := by kernel_rfl
theorem len_any (w : World) (a : Option Addr) (n c : Nat) : Calls Try.prog 113 #[.slice a n c] w fun e w' => e = .returned (.int .i64 (n : Int)) ∧ w' = w := by
  go_enter Try.func113, Try.ntmps113
  go_wp2_with fail
  go_ret
  exact ⟨rfl, rfl⟩
/-- A row of numbers of the program's own. -/
abbrev OwU (w : World) (v : Value) (l : List Nat) : Prop := w.ownsRow 0 28 1 v l.length (uv l)
theorem OwU.at {w : World} {g n c : Nat} {l : List Nat} (h : OwU w (.slice (some ⟨g, 0, none⟩) n c) l) (i : Nat) (hi : i < l.length) : w.cell? ⟨g, i, none⟩ = some (.int .u64 (gv l i : Int)) := by
  have := World.ownsRow.cells h rfl i _ (uv_get l i hi)
  rw [Addr.add_lit] at this
  simpa using this
theorem OwU.sh {w : World} {v : Value} {l : List Nat} (h : OwU w v l) : (v = .slice none 0 0 ∧ l = []) ∨ ∃ g c, v = .slice (some ⟨g, 0, none⟩) l.length c ∧ l.length ≤ c ∧ c ≤ maxLen ∧ g < w.heap.size := by
  rcases h.2 with ⟨rfl, hn⟩ | ⟨g, cap, cur, rfl, hb, hg, hnc, hcm, hcs, ht⟩
  · exact .inl ⟨rfl, List.eq_nil_of_length_eq_zero hn⟩
  · exact .inr ⟨g, cap, rfl, hnc, hcm, (Array.getElem?_eq_some_iff.1 hg).1⟩
set_option maxHeartbeats 1000000 in
theorem less_any (w : World) (g c : Nat) (l : List Nat) (h : OwU w (.slice (some ⟨g, 0, none⟩) l.length c) l) (hc : c ≤ maxLen) (hlc : l.length ≤ c) (i j : Nat) (hi : i < l.length) (hj : j < l.length) :
    Calls Try.prog 114 #[.slice (some ⟨g, 0, none⟩) l.length c, .int .i64 (i : Int), .int .i64 (j : Int)] w fun e w' => e = .returned (.bool (decide (gv l i < gv l j))) ∧ ∃ n, w' = w.drewN n := by
  have ci := h.at i hi
  have cj := h.at j hj
  unfold maxLen at hc
  go_enter Try.func114, Try.ntmps114
  go_wp2
  go_quiet (fail)
  all_goals
    go_wp2_with fail
    go_ret
    exact ⟨by simp, ⟨_, rfl⟩⟩
theorem OwU.free {w : World} {g n c : Nat} {l : List Nat} (h : OwU w (.slice (some ⟨g, 0, none⟩) n c) l) (i : Nat) : w.frozen? ⟨g, i, none⟩ = false := by
  rcases h.2 with ⟨h1, _⟩ | ⟨g', cap, cur, h1, hb, hg, _⟩
  · cases h1
  · cases h1; exact frozen_of_row w g i _ _ hg
theorem OwU.len {w : World} {g n c : Nat} {l : List Nat} (h : OwU w (.slice (some ⟨g, 0, none⟩) n c) l) : n = l.length ∧ l.length ≤ c ∧ c ≤ maxLen ∧ g < w.heap.size := by
  rcases h.2 with ⟨h1, _⟩ | ⟨g', cap, cur, h1, hb, hg, hnc, hcm, _⟩
  · cases h1
  · cases h1; exact ⟨rfl, hnc, hcm, (Array.getElem?_eq_some_iff.1 hg).1⟩
theorem OwU.set2 {w : World} {g n c : Nat} {l : List Nat} (h : OwU w (.slice (some ⟨g, 0, none⟩) n c) l) (i j x y : Nat) : OwU ((w.setCell ⟨g, i, none⟩ (.int .u64 (x : Int))).setCell ⟨g, j, none⟩ (.int .u64 (y : Int))) (.slice (some ⟨g, 0, none⟩) n c) ((l.set i x).set j y) := by
  have hn := h.len.1
  subst hn
  have h1 := ((World.ownsRow.stored h i (.int .u64 (x : Int))).1.stored j (.int .u64 (y : Int))).1
  rw [← uv_set, ← uv_set] at h1
  unfold OwU
  rw [List.length_set, List.length_set]
  exact h1
theorem OwU.set1 {w : World} {g n c : Nat} {l : List Nat} (h : OwU w (.slice (some ⟨g, 0, none⟩) n c) l) (i x : Nat) : OwU (w.setCell ⟨g, i, none⟩ (.int .u64 (x : Int))) (.slice (some ⟨g, 0, none⟩) n c) (l.set i x) := by
  have hn := h.len.1
  subst hn
  have h1 := (World.ownsRow.stored h i (.int .u64 (x : Int))).1
  rw [← uv_set] at h1
  unfold OwU
  rw [List.length_set]
  exact h1
set_option maxHeartbeats 1000000 in
theorem swap_any (w : World) (g n c : Nat) (l : List Nat) (h : OwU w (.slice (some ⟨g, 0, none⟩) n c) l) (i j : Nat) (hi : i < n) (hj : j < n) :
    Calls Try.prog 115 #[.slice (some ⟨g, 0, none⟩) n c, .int .i64 (i : Int), .int .i64 (j : Int)] w fun e w' => e = .returned (.tuple #[]) ∧ OwU w' (.slice (some ⟨g, 0, none⟩) n c) (swp l i j) ∧ w.grownBy w' (some g) := by
  obtain ⟨hn, hlc, hc, hg⟩ := h.len
  have ci := h.at i (by omega)
  have cj := h.at j (by omega)
  have fi := h.free i
  have fj := h.free j
  have hx := h.set2 i j (gv l j) (gv l i)
  have h1 := h.set1 i (gv l j)
  have h2 := h.set1 j (gv l i)
  have c1 := h1.at j (by rw [List.length_set]; omega)
  have c2 := h2.at i (by rw [List.length_set]; omega)
  have f1 := h1.free j
  have f2 := h2.free i
  clear h1 h2
  have H := hide h
  have HN := hide hn
  unfold maxLen at hc
  rw [← hn] at hlc
  clear h hn
  go_enter Try.func115, Try.ntmps115
  go_wp2
  go_region
  go_wp2_with fail
  go_end0
  have hgr : w.grownBy ((w.setCell ⟨g, i, none⟩ (.int .u64 (gv l j : Int))).setCell ⟨g, j, none⟩ (.int .u64 (gv l i : Int))) (some g) := grown_trans grown_setCell grown_setCell
  exact ⟨rfl, hx, hgr.os, hgr.tape, hgr.output, hgr.size, hgr.block⟩
/-- A heap in its row's box: what the map's cell holds stays. -/
structure Hb (w : World) (g : Nat) (c0 v : Value) (l : List Nat) : Prop where
  b : BxA w g 104 #[c0, v]
  o : OwU w v l
theorem Hb.ne {w : World} {g : Nat} {c0 v : Value} {l : List Nat} (h : Hb w g c0 v l) : ∀ r, v.ownBlock = some r → r ≠ g := fun r hr e => by
  have hd : w.heap[g]? = _ := h.b
  rcases h.o.2 with ⟨h1, _⟩ | ⟨g', cap, cur, h1, _, h3, _⟩
  · rw [h1] at hr; cases hr
  · rw [h1] at hr
    simp only [Value.ownBlock, Option.some.injEq] at hr
    rw [← hr] at e
    rw [e, hd] at h3
    simp only [Option.some.injEq, Obj.cells.injEq] at h3
    exact absurd h3.2.1 (by decide)
theorem Hb.frame {w w' : World} {g : Nat} {c0 v : Value} {l : List Nat} (h : Hb w g c0 v l) (hg : w'.heap[g]? = w.heap[g]?) (hv : ∀ r, v.ownBlock = some r → w'.heap[r]? = w.heap[r]?) : Hb w' g c0 v l := by
  refine ⟨by have := h.b; unfold BxA at this ⊢; rw [hg]; exact this, ?_⟩
  refine ⟨h.o.1, ?_⟩
  rcases h.o.2 with h2 | ⟨g', cap, cur, h1, h2, h3, h4⟩
  · exact .inl h2
  · refine .inr ⟨g', cap, cur, h1, h2, ?_, h4⟩
    rw [hv g' (by rw [h1]; rfl)]
    exact h3
theorem lens (a : Addr) (w : World) (v : Value) (h : w.cell? a = some v) (m : FuncId) : (do let v ← loadVar 102 a; pure (m, v) : Sem (FuncId × Value)).run Try.prog w = .ok (m, v) w := by
  simp [loadVar, isAgg, underlying, Try.underlying102, h, Result.andThen]
end Go.Proofs.Ytnkllgpibmofiaa
