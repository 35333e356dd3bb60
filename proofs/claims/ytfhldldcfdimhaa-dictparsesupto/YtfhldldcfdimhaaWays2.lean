/- Contracts of Id and Begin. -/
import Derived.Test.YtfhldldcfdimhaaWays
namespace Go.Proofs.Ytfhldldcfdimhaa
open Go.RowKit Go.Shelf Go.Sort

theorem below_dN {B : Nat} {a w : World} (h : Below B a w) (n : Nat) : Below B a (w.drewN n) := ⟨h.os, h.tape, h.output, h.size, h.block⟩
theorem beq_str {a b : Str} (h : a ≠ b) : (a == b) = false := beq_eq_false_iff_ne.2 h
set_option maxHeartbeats 800000 in
theorem id_in (w : World) (p : Value) (ts : List Str) (s : Str) (h : ND w p ts) (hs : s ∈ ts) :
    Calls Try.prog 18 #[p, .string ⟨s.toArray⟩] w fun e w' => e = .returned (.tuple #[.int .i64 (frm ts s : Nat), .bool true]) ∧ Below w.heap.size w w' := by
  have hf := from_any w p ts s h
  obtain ⟨h1, h2⟩ := (frm_there h.ris s).2 hs
  have hT : ∀ w', Below w.heap.size w w' → Calls Try.prog 17 #[p, .int .i64 (frm ts s : Nat)] w' fun e w'' => e = .returned (.tuple #[.string ⟨s.toArray⟩, .bool true]) ∧ w'' = w' := fun w' hb => by
    have := text_in w' p ts (h.below hb) (frm ts s) h1
    rwa [h2] at this
  clear h1 h2 hs h
  generalize frm ts s = r at *
  go_enter Try.func18, Try.ntmps18
  go_wp2_with fail
  refine hf.mono ?_
  rintro e w1 ⟨rfl, hb1⟩
  go_wp2_with fail
  refine (hT w1 hb1).mono ?_
  rintro e w2 ⟨rfl, rfl⟩
  go_wp2
  go_ret2
  exact ⟨rfl, hb1⟩
set_option maxHeartbeats 800000 in
theorem id_out (w : World) (p : Value) (ts : List Str) (s : Str) (h : ND w p ts) (hs : s ∉ ts) :
    Calls Try.prog 18 #[p, .string ⟨s.toArray⟩] w fun e w' => e = .returned (.tuple #[.int .i64 0, .bool false]) ∧ Below w.heap.size w w' := by
  have hf := from_any w p ts s h
  have hn : ¬ (frm ts s < ts.length ∧ ts.getD (frm ts s) [] = s) := fun x => hs ((frm_there h.ris s).1 x)
  by_cases h1 : frm ts s < ts.length
  · have h2 : ts.getD (frm ts s) [] ≠ s := fun x => hn ⟨h1, x⟩
    have hT : ∀ w', Below w.heap.size w w' → Calls Try.prog 17 #[p, .int .i64 (frm ts s : Nat)] w' fun e w'' => e = .returned (.tuple #[.string ⟨(ts.getD (frm ts s) []).toArray⟩, .bool true]) ∧ w'' = w' := fun w' hb => text_in w' p ts (h.below hb) (frm ts s) h1
    clear h1 hn hs h
    generalize ts.getD (frm ts s) [] = t at *
    generalize frm ts s = r at *
    have h3 := beq_str h2
    clear h2
    go_enter Try.func18, Try.ntmps18
    go_wp2_with fail
    refine hf.mono ?_
    rintro e w1 ⟨rfl, hb1⟩
    go_wp2_with fail
    refine (hT w1 hb1).mono ?_
    rintro e w2 ⟨rfl, rfl⟩
    go_wp2
    go_ret2
    exact ⟨rfl, hb1⟩
  · have hT : ∀ w', Below w.heap.size w w' → Calls Try.prog 17 #[p, .int .i64 (frm ts s : Nat)] w' fun e w'' => e = .returned (.tuple #[.string ⟨#[]⟩, .bool false]) ∧ w'' = w' := fun w' hb => text_out w' p ts (h.below hb) (frm ts s : Nat) (.inr (by omega))
    clear h1 hn hs h
    generalize frm ts s = r at *
    go_enter Try.func18, Try.ntmps18
    go_wp2_with fail
    refine hf.mono ?_
    rintro e w1 ⟨rfl, hb1⟩
    go_wp2_with fail
    refine (hT w1 hb1).mono ?_
    rintro e w2 ⟨rfl, rfl⟩
    go_wp2
    go_ret2
    exact ⟨rfl, hb1⟩

set_option maxHeartbeats 1600000 in
theorem begin_closure (bd bl bs B b off n cap i lo : Nat) (t s : Str) (W : World) (hi : lo + i < n) (hn : n ≤ 4096) (hd : W.cell? ⟨bd, 0, none⟩ = some (.pointer (some ⟨B, 0, none⟩))) (hl : W.cell? ⟨bl, 0, none⟩ = some (.int .i64 (lo : Int))) (hs : W.cell? ⟨bs, 0, none⟩ = some (.string ⟨s.toArray⟩))
    (hv : W.cell? ⟨B, 0, none⟩ = some (.slice (some ⟨b, off, none⟩) n cap)) (hc : W.cell? ⟨b, off + (lo + i), none⟩ = some (.string ⟨t.toArray⟩)) :
    Calls Try.prog 45 (#[.int .i64 i] ++ #[.pointer (some ⟨bd, 0, none⟩), .pointer (some ⟨bl, 0, none⟩), .pointer (some ⟨bs, 0, none⟩)]) W fun e w' => e = .returned (.bool (!pre s t)) ∧ ∃ q, w' = W.drewN q := by
  obtain ⟨k, hk⟩ : ∃ k, lo + i = k := ⟨_, rfl⟩
  have hki : (lo : Int) + (i : Int) = (k : Int) := by omega
  rw [hk] at hc hi
  have hiz : (k : Int) < (n : Int) := by omega
  have hP : ∀ w', Calls Try.prog 46 #[.string ⟨t.toArray⟩, .string ⟨s.toArray⟩] w' fun e w'' => e = .returned (.bool (pre s t)) ∧ w'' = w' := fun w' => Try.strings_HasPrefix ⟨t.toArray⟩ ⟨s.toArray⟩ w'
  generalize pre s t = r at *
  clear hk
  go_enter Try.func45, Try.ntmps45
  go_wp2
  go_quiet ((go_at_call 46; exact Calls.quiet_of_same (hP _)))
  go_wp2
  go_ret
  exact ⟨rfl, _, rfl⟩

end Go.Proofs.Ytfhldldcfdimhaa
