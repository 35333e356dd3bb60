/- Facts and what an aggregator has, as they lie in memory; contracts of the small functions of the ways. -/
import Derived.Test.YtkoihniggoelnaaWay2
namespace Go.Proofs.Ytkoihniggoelnaa
open Go.RowKit Go.Sort

/-- A fact as it lies in memory: its time, the values of its two slices, and what these read as. -/
structure Fc where
  t : Int
  dv : Value
  mv : Value
  ds : List Str
  ms : List Int
def Fc.cells (f : Fc) : List Value := [.int .i64 f.t, f.dv, f.mv]
structure Fc.Ok (w : World) (f : Fc) : Prop where
  rd : Rds w f.dv (sv f.ds)
  rm : Rds w f.mv (iv f.ms)
theorem Fc.Ok.up {w w' : World} {f : Fc} (h : f.Ok w) (hb : Below w.heap.size w w') : f.Ok w' := ⟨h.rd.below hb, h.rm.below hb⟩
theorem Fc.Ok.lens {w : World} {f : Fc} (h : f.Ok w) : ∃ ad nd cd am nm cm, f.dv = .slice ad nd cd ∧ f.mv = .slice am nm cm ∧ nd = f.ds.length ∧ nm = f.ms.length ∧ nd ≤ cd ∧ cd ≤ maxLen ∧ nm ≤ cm ∧ cm ≤ maxLen ∧
    (0 < f.ds.length → ∃ b off, ad = some ⟨b, off, none⟩ ∧ ∀ i, i < f.ds.length → w.cell? ⟨b, off + i, none⟩ = some (.string ⟨(f.ds.getD i []).toArray⟩)) ∧
    (0 < f.ms.length → ∃ b off, am = some ⟨b, off, none⟩ ∧ ∀ i, i < f.ms.length → w.cell? ⟨b, off + i, none⟩ = some (.int .i64 (f.ms.getD i 0))) := by
  obtain ⟨ad, nd, cd, e1⟩ := h.rd.sl
  obtain ⟨am, nm, cm, e2⟩ := h.rm.sl
  have k1 := h.rd
  have k2 := h.rm
  rw [e1] at k1
  rw [e2] at k2
  obtain ⟨a1, a2, a3, a4⟩ := k1.cells
  obtain ⟨b1, b2, b3, b4⟩ := k2.cells
  rw [sv_length] at a1 a2 a4
  rw [iv_length] at b1 b2 b4
  refine ⟨ad, nd, cd, am, nm, cm, e1, e2, a1, b1, by omega, a3, by omega, b3, fun h0 => ?_, fun h0 => ?_⟩
  · obtain ⟨b, off, e, hc⟩ := a4 h0
    exact ⟨b, off, e, fun i hi => hc i _ (sv_get _ i hi)⟩
  · obtain ⟨b, off, e, hc⟩ := b4 h0
    exact ⟨b, off, e, fun i hi => hc i _ (iv_get _ i hi)⟩
/-- What an aggregator has, as it lies in memory. -/
structure Pt where
  n : Int
  v : Int
  tv : Value
  ts : List Str
structure Pt.Ok (w : World) (p : Pt) : Prop where
  rt : Rds w p.tv (sv p.ts)
theorem Pt.Ok.up {w w' : World} {p : Pt} (h : p.Ok w) (hb : Below w.heap.size w w') : p.Ok w' := ⟨h.rt.below hb⟩

theorem never_any (w : World) (D M c : Int) : Calls Try.prog 35 #[.agg #[.int .i64 D, .int .i64 M], .int .i64 c] w fun e w' => e = .returned (.bool false) ∧ Grows w w' := by
  go_enter Try.func35, Try.ntmps35
  go_wp2_with fail
  go_ret
  exact ⟨rfl, Grows.alloc _ _⟩
theorem always_any (w : World) (D M c : Int) : Calls Try.prog 40 #[.agg #[.int .i64 D, .int .i64 M], .int .i64 c] w fun e w' => e = .returned (.bool true) ∧ Grows w w' := by
  go_enter Try.func40, Try.ntmps40
  go_wp2_with fail
  go_ret
  exact ⟨rfl, Grows.alloc _ _⟩
theorem isMeasure_any (w : World) (D M c : Int) : Calls Try.prog 42 #[.agg #[.int .i64 D, .int .i64 M], .int .i64 c] w fun e w' => e = .returned (.bool (decide (0 ≤ c ∧ c < M))) ∧ Grows w w' := by
  have kI := within_any (w.alloc (.cells #[.int .i64 D, .int .i64 M] 23)) c M
  generalize decide (0 ≤ c ∧ c < M) = r at *
  go_enter Try.func42, Try.ntmps42
  go_wp2_with fail
  refine kI.mono ?_
  rintro e w2 ⟨rfl, rfl⟩
  go_wp2_with fail
  go_ret
  exact ⟨rfl, Grows.alloc _ _⟩
theorem isDimension_any (w : World) (D M c : Int) : Calls Try.prog 49 #[.agg #[.int .i64 D, .int .i64 M], .int .i64 c] w fun e w' => e = .returned (.bool (decide (0 ≤ c ∧ c < D))) ∧ Grows w w' := by
  have kI := within_any (w.alloc (.cells #[.int .i64 D, .int .i64 M] 23)) c D
  generalize decide (0 ≤ c ∧ c < D) = r at *
  go_enter Try.func49, Try.ntmps49
  go_wp2_with fail
  refine kI.mono ?_
  rintro e w2 ⟨rfl, rfl⟩
  go_wp2_with fail
  go_ret
  exact ⟨rfl, Grows.alloc _ _⟩
/-- What stands at a place of a row, 0 where there is none. -/
def atI (l : List Int) (c : Int) : Int := if 0 ≤ c ∧ c < l.length then l.getD c.toNat 0 else 0
def atS (l : List Str) (c : Int) : Str := if 0 ≤ c ∧ c < l.length then l.getD c.toNat [] else []
theorem atI_any (w : World) (v : Value) (l : List Int) (c : Int) (h : Rds w v (iv l)) :
    Calls Try.prog 54 #[v, .int .i64 c] w fun e w' => e = .returned (.int .i64 (atI l c)) ∧ w' = w := by
  obtain ⟨ao, n, cap, rfl⟩ := h.sl
  obtain ⟨hn, hc1, hc2, hc3⟩ := h.cells
  rw [iv_length] at hn hc1 hc3
  rw [← hn] at hc1
  unfold maxLen at hc2
  have kI := within_any w c (n : Int)
  by_cases hin : 0 ≤ c ∧ c < (n : Int)
  · rw [decide_eq_true hin] at kI
    obtain ⟨i, hi⟩ : ∃ i : Nat, c = (i : Int) := ⟨c.toNat, by omega⟩
    obtain ⟨b, off, rfl, hcell⟩ := hc3 (by omega)
    have q := hcell i _ (iv_get l i (by omega))
    have HR : Hid (atI l c = l.getD i 0) := by show _ = _; unfold atI; rw [if_pos (by rw [← hn]; exact hin), show c.toNat = i by omega]
    generalize l.getD i 0 = m at *
    have hiz : (i : Int) < (n : Int) := by omega
    have HC : Hid (c = (i : Int)) := hi
    rw [hi] at kI ⊢
    clear h hn hc3 hin hi hcell
    go_enter Try.func54, Try.ntmps54
    go_wp2_with fail
    refine kI.mono ?_
    rintro e w2 ⟨rfl, rfl⟩
    go_wp2_with fail
    go_ret
    exact ⟨by rw [← HC.out, HR.out]; rfl, rfl⟩
  · rw [decide_eq_false hin] at kI
    have HR : Hid (atI l c = 0) := by show _ = _; unfold atI; rw [if_neg (by rw [← hn]; exact hin)]
    clear h hn hc3 hin
    go_enter Try.func54, Try.ntmps54
    go_wp2_with fail
    refine kI.mono ?_
    rintro e w2 ⟨rfl, rfl⟩
    go_wp2_with fail
    go_ret
    exact ⟨by rw [HR.out]; rfl, rfl⟩
theorem atS_any (w : World) (v : Value) (l : List Str) (c : Int) (h : Rds w v (sv l)) :
    Calls Try.prog 55 #[v, .int .i64 c] w fun e w' => e = .returned (.string ⟨(atS l c).toArray⟩) ∧ w' = w := by
  obtain ⟨ao, n, cap, rfl⟩ := h.sl
  obtain ⟨hn, hc1, hc2, hc3⟩ := h.cells
  rw [sv_length] at hn hc1 hc3
  rw [← hn] at hc1
  unfold maxLen at hc2
  have kI := within_any w c (n : Int)
  by_cases hin : 0 ≤ c ∧ c < (n : Int)
  · rw [decide_eq_true hin] at kI
    obtain ⟨i, hi⟩ : ∃ i : Nat, c = (i : Int) := ⟨c.toNat, by omega⟩
    obtain ⟨b, off, rfl, hcell⟩ := hc3 (by omega)
    have q := hcell i _ (sv_get l i (by omega))
    have HR : Hid (atS l c = l.getD i []) := by show _ = _; unfold atS; rw [if_pos (by rw [← hn]; exact hin), show c.toNat = i by omega]
    generalize l.getD i [] = m at *
    have hiz : (i : Int) < (n : Int) := by omega
    have HC : Hid (c = (i : Int)) := hi
    rw [hi] at kI ⊢
    clear h hn hc3 hin hi hcell
    go_enter Try.func55, Try.ntmps55
    go_wp2_with fail
    refine kI.mono ?_
    rintro e w2 ⟨rfl, rfl⟩
    go_wp2_with fail
    go_ret
    exact ⟨by rw [← HC.out, HR.out]; rfl, rfl⟩
  · rw [decide_eq_false hin] at kI
    have HR : Hid (atS l c = []) := by show _ = _; unfold atS; rw [if_neg (by rw [← hn]; exact hin)]
    clear h hn hc3 hin
    go_enter Try.func55, Try.ntmps55
    go_wp2_with fail
    refine kI.mono ?_
    rintro e w2 ⟨rfl, rfl⟩
    go_wp2_with fail
    go_ret
    exact ⟨by rw [HR.out]; rfl, rfl⟩
theorem count_any (w : World) (p : Pt) (h : p.Ok w) : Calls Try.prog 41 #[.agg #[.int .u64 p.n, .int .i64 p.v, p.tv]] w fun e w' => e = .returned (.int .i64 (wrap64 p.n)) ∧ Grows w w' := by
  obtain ⟨a, n, c, e1⟩ := h.rt.sl
  rw [e1]
  clear h e1
  go_enter Try.func41, Try.ntmps41
  go_wp2_with fail
  go_ret
  exact ⟨rfl, Grows.alloc _ _⟩
theorem number_any (w : World) (p : Pt) (h : p.Ok w) : Calls Try.prog 38 #[.agg #[.int .u64 p.n, .int .i64 p.v, p.tv]] w fun e w' => e = .returned (.int .i64 p.v) ∧ Grows w w' := by
  obtain ⟨a, n, c, e1⟩ := h.rt.sl
  rw [e1]
  clear h e1
  go_enter Try.func38, Try.ntmps38
  go_wp2_with fail
  go_ret
  exact ⟨rfl, Grows.alloc _ _⟩
theorem howMany_any (w : World) (p : Pt) (h : p.Ok w) : Calls Try.prog 52 #[.agg #[.int .u64 p.n, .int .i64 p.v, p.tv]] w fun e w' => e = .returned (.int .i64 (p.ts.length : Int)) ∧ Grows w w' := by
  obtain ⟨a, n, c, e1⟩ := h.rt.sl
  have k := h.rt
  rw [e1] at k
  obtain ⟨hn, h1, h2, -⟩ := k.cells
  rw [sv_length] at hn h1
  rw [← hn] at h1
  unfold maxLen at h2
  rw [e1, ← hn]
  clear h e1 k hn
  go_enter Try.func52, Try.ntmps52
  go_wp2_with fail
  go_ret
  exact ⟨rfl, Grows.alloc _ _⟩
end Go.Proofs.Ytkoihniggoelnaa
