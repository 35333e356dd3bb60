/- awake's first aggregators. -/
import Derived.Test.YtkoihniggoelnaaCkw
namespace Go.Proofs.Ytkoihniggoelnaa
open Go.RowKit Go.Sort

theorem start_ex (w : World) (k c : Int) : Calls Try.prog 22 #[.agg #[.int .i64 k, .int .i64 c]] w fun e w' => e = .returned (.agg #[.int .u64 0, .int .i64 0, .slice none 0 0]) ∧ w' = (w.alloc (.cells #[.int .i64 k, .int .i64 c] 26)).alloc (.cells #[.int .u64 0, .int .i64 0, .slice none 0 0] 30) := by
  go_enter Try.func22, Try.ntmps22
  go_wp2_with fail
  go_returns
  exact ⟨rfl, rfl⟩
theorem cell_dr {w : World} {a : Addr} {v : Value} (h : w.cell? a = some v) : w.drew.cell? a = some v := h
theorem rd_i1 {X : World} {B : Nat} {n : Int} (h : X.cell? ⟨B, 0, none⟩ = some (.int .i64 n)) : Rds X (.slice (some ⟨B, 0, none⟩) 1 1) (iv [n]) := by
  refine ⟨some ⟨B, 0, none⟩, 1, rfl, Nat.le_refl _, by decide, (fun h => by cases h), ?_⟩
  rintro ad ⟨rfl⟩ j u hj
  have hj0 : j = 0 := by have := (List.getElem?_eq_some_iff.1 hj).1; simp [iv] at this; omega
  subst hj0
  have hu : u = .int .i64 n := by simpa [iv] using hj.symm
  subst hu
  rw [Addr.add_lit]; exact h
theorem rd_s1 {X : World} {B : Nat} {x : Str} (h : X.cell? ⟨B, 0, none⟩ = some (.string ⟨x.toArray⟩)) : Rds X (.slice (some ⟨B, 0, none⟩) 1 1) (sv [x]) := by
  refine ⟨some ⟨B, 0, none⟩, 1, rfl, Nat.le_refl _, by decide, (fun h => by cases h), ?_⟩
  rintro ad ⟨rfl⟩ j u hj
  have hj0 : j = 0 := by have := (List.getElem?_eq_some_iff.1 hj).1; simp [sv] at this; omega
  subst hj0
  have hu : u = .string ⟨x.toArray⟩ := by simpa [sv] using hj.symm
  subst hu
  rw [Addr.add_lit]; exact h
/-- Add to nothing, at kind 2 and 5. -/
theorem add_2 (X : World) (p : Pt) (B : Nat) (n m : Int) (hp : p.Ok X) (hl : p.ts = []) (h : X.cell? ⟨B, 0, none⟩ = some (.int .i64 n)) :
    Calls Try.prog 23 #[.agg #[.int .i64 2, .int .i64 0], .agg #[.int .u64 p.n, .int .i64 p.v, p.tv], .agg #[.int .i64 0, .slice none 0 0, .slice (some ⟨B, 0, none⟩) 1 1], .int .u64 m] X (Gives (addP 2 0 p.p0 ⟨0, .slice none 0 0, .slice (some ⟨B, 0, none⟩) 1 1, [], [n]⟩ m) X) :=
  add_any X 2 0 m p ⟨0, .slice none 0 0, .slice (some ⟨B, 0, none⟩) 1 1, [], [n]⟩ hp ⟨Rds.nil _, rd_i1 h⟩ (by rw [hl]; simp) (fun _ h5 => by cases h5)
theorem add_5 (X : World) (B : Nat) (x : Str) (m : Int) (h : X.cell? ⟨B, 0, none⟩ = some (.string ⟨x.toArray⟩)) :
    Calls Try.prog 23 #[.agg #[.int .i64 5, .int .i64 0], .agg #[.int .u64 0, .int .i64 0, .slice none 0 0], .agg #[.int .i64 0, .slice (some ⟨B, 0, none⟩) 1 1, .slice none 0 0], .int .u64 m] X (Gives (addP 5 0 (0, 0, []) ⟨0, .slice (some ⟨B, 0, none⟩) 1 1, .slice none 0 0, [x], []⟩ m) X) :=
  add_any X 5 0 m ⟨0, 0, .slice none 0 0, []⟩ ⟨0, .slice (some ⟨B, 0, none⟩) 1 1, .slice none 0 0, [x], []⟩ ⟨Rds.nil _⟩ ⟨rd_s1 h, Rds.nil _⟩ (by simp) (fun h0 _ => absurd rfl h0)
theorem add_2a (B : Nat) : addP 2 0 (0, 0, []) ⟨0, .slice none 0 0, .slice (some ⟨B, 0, none⟩) 1 1, [], [3]⟩ 2 = (2, 6, []) := by
  simp [addP, mrgP, hasP, sumV, atI]; decide +kernel
theorem add_2b (B : Nat) : addP 2 0 (2, 6, []) ⟨0, .slice none 0 0, .slice (some ⟨B, 0, none⟩) 1 1, [], [-1]⟩ 1 = (3, 5, []) := by
  simp [addP, mrgP, hasP, sumV, atI, jv, jt]; decide +kernel
theorem add_5a (B : Nat) (x : Str) : addP 5 0 (0, 0, []) ⟨0, .slice (some ⟨B, 0, none⟩) 1 1, .slice none 0 0, [x], []⟩ 1 = (1, 0, [x]) := by
  simp [addP, mrgP, hasP, atS]
theorem mrg_5 : mrgP 5 (1, 0, [[98]]) (1, 0, [[97]]) = (2, 0, [[97], [98]]) := by
  have := uni_ab
  simp [mrgP, jv, jt, this]; decide +kernel
end Go.Proofs.Ytkoihniggoelnaa
