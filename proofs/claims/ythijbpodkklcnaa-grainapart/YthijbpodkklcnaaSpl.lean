/- The contract of withPart, and what Split does. -/
import Derived.Test.YthijbpodkklcnaaNums
import Derived.Deep.LoopGhost
namespace Go.Proofs.Ythijbpodkklcnaa
open Go.RowKit Go.Sort

theorem below_gb {w w' : World} (h : Below w.heap.size w w') (r : Option Nat) : w.grownBy w' r := ⟨h.os, h.tape, h.output, h.size, fun i hi _ => h.block i hi⟩
set_option maxHeartbeats 800000 in
theorem withPart_any (w : World) (base : Nat) (v : Value) (l : List Sp) (s : Sp) (h : OwP w base v l) (hb : base ≤ w.heap.size) (hbig : (l.length + 1) * 16 ≤ 160842843834660) :
    Calls Try.prog 28 #[v, .agg #[.int .i64 s.1, .int .i64 s.2]] w fun e w' => ∃ v', e = .returned v' ∧ OwP w' base v' (wp l s) ∧ Below base w w' ∧ w.grownBy w' v.ownBlock := by
  obtain ⟨i0, hi, hz0, hz1, hz2⟩ := info_parts Try.info_span
  obtain ⟨F, T⟩ := s
  simp only
  have kE := fun W => empty_ex W F T
  obtain ⟨W, hW⟩ : ∃ W, W = (w.alloc (.cells #[.int .i64 F, .int .i64 T] 23)).alloc (.cells #[.int .i64 F, .int .i64 T] 23) := ⟨_, rfl⟩
  have bW : Below w.heap.size w W := by rw [hW]; exact ((Grows.alloc _ _).trans (Grows.alloc _ _)).below
  have oW := h.below bW
  obtain ⟨a, n, c, rfl⟩ := own_sl h
  by_cases hc : F ≥ T
  · have e : wp l (F, T) = l := by simp [wp, emp, hc]
    rw [e]
    rw [decide_eq_true hc] at kE
    have HB : Hid (Below w.heap.size w W) := bW
    have HO : Hid (OwP W base (.slice a n c) l) := oW
    have HW : Hid _ := hW
    clear e hc hW bW oW h
    go_enter Try.func28, Try.ntmps28
    go_wp2_with (go_at_call 13; refine (kE _).mono ?_; rintro e w' ⟨rfl, rfl⟩)
    go_ret
    refine ⟨_, rfl, ?_⟩
    rw [← HW.out]
    exact ⟨HO.out, HB.out.mono hb, below_gb HB.out _⟩
  · have e : wp l (F, T) = l ++ [(F, T)] := by simp [wp, emp]; omega
    rw [e]
    rw [decide_eq_false hc] at kE
    have rone := one_rds W (F, T) _ rfl
    have oW2 : OwP (W.alloc (.cells #[.int .i64 F, .int .i64 T] 23)) base (.slice a n c) l := oW.below ((Below.refl _ _).alloc (Nat.le_refl _) _)
    have HR : Hid (RdP _ _ [(F, T)]) := rone
    have HO : Hid (OwP _ base (.slice a n c) l) := oW2
    have HB : Hid (Below w.heap.size w (W.alloc (.cells #[.int .i64 F, .int .i64 T] 23))) := bW.trans (((Below.refl _ _).alloc (Nat.le_refl _) _).mono bW.size)
    have hsz : W.heap.size = w.heap.size + 1 + 1 := by rw [hW]; simp
    rw [hsz] at HR
    have hws : base ≤ (W.alloc (.cells #[.int .i64 F, .int .i64 T] 23)).heap.size := by simp; omega
    rw [hW] at HR HO HB hws
    have hza : l.length + 1 ≤ maxLen := by unfold maxLen; omega
    have hzb : ((l.length + 1) + (l.length + 1) / 4 + 192) * 16 ≤ 281474976710656 := by omega
    clear e hc hW bW oW oW2 rone h hsz
    go_enter Try.func28, Try.ntmps28
    go_wp2_with (first
      | (go_at_call 13; refine (kE _).mono ?_; rintro e w' ⟨rfl, rfl⟩)
      | (at_builtin; refine wpList_appK rfl _ _ 28 rfl base 23 i0 (.agg #[.int .i64 0, .int .i64 0]) 2 16 Try.underlying28 hi hz0 hz1 hz2 rfl (by decide) _ _ _ rfl HO.out _ _ _ rfl HR.out (pv_one _) hza hzb hws ?_; intro v7 w7 hown7 hgrow7 hnil7))
    go_ret
    refine ⟨_, rfl, ?_, (HB.out.mono hb).grown hgrow7 hws fun k hk => (World.ownsRow.lt HO.out k hk).1, grown_trans (below_gb HB.out _) hgrow7⟩
    unfold OwP
    rw [pv_app, List.length_append]
    exact hown7

/-- A span, cut where buckets begin, into so many parts at most. -/
def cut (g T : Int) : Nat → Int → Option (List Sp)
  | 0, F => if T ≤ F then some [] else none
  | n + 1, F => if T ≤ F then some [] else (cut g T n (fe F T g)).map fun l => (F, fe F T g) :: l
theorem fe_in {F T g : Int} (hg : 1 ≤ g) (h : F < T) : F < fe F T g ∧ fe F T g ≤ T := by
  unfold fe
  have h1 := Int.emod_nonneg F (show g ≠ 0 by omega)
  have h2 := Int.emod_lt_of_pos F (show 0 < g by omega)
  split <;> omega
theorem cut_done (g T : Int) (n : Nat) (F : Int) (h : T ≤ F) : cut g T n F = some [] := by cases n <;> simp [cut, h]
theorem cut_more (g T : Int) (n : Nat) (F : Int) (h : ¬ T ≤ F) : cut g T (n + 1) F = (cut g T n (fe F T g)).map fun l => (F, fe F T g) :: l := by simp [cut, h]
theorem cut_out (g T : Int) (F : Int) (h : ¬ T ≤ F) : cut g T 0 F = none := by simp [cut, h]
/-- Its parts, or the error. -/
def splitE (s : Sp) (g : Int) : Option (List Sp) := if g < 1 then none else cut g s.2 1000 s.1
def errE (o : Option (List Sp)) : Int := if o.isSome then 0 else 1

end Go.Proofs.Ythijbpodkklcnaa
