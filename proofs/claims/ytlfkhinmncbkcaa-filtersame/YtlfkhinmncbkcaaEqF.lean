/- Contracts of the library's Equal and EqualFunc. -/
import Derived.Test.YtlfkhinmncbkcaaSameM
namespace Go.Proofs.Ytlfkhinmncbkcaa
open Go.RowKit Go.Sort

/-- What same promises of trees below N. -/
def SameC (N : Nat) : Prop := ∀ a : Tr, SizeOf.sizeOf a < N → ∀ (b : Tr) (w : World), a.Ok w → b.Ok w →
  Calls Try.prog 29 #[.agg #[.int .i64 a.k, .int .i64 a.d, a.tv, .int .i64 a.lo, .int .i64 a.hi, a.kv], .agg #[.int .i64 b.k, .int .i64 b.d, b.tv, .int .i64 b.lo, .int .i64 b.hi, b.kv]] w fun e w' => e = .returned (.bool (a.same b)) ∧ Grows w w'

set_option maxHeartbeats 4000000 in
theorem equal_any (w : World) (va vb : Value) (ts us : List Str) (ha : Rds w va (sv ts)) (hb : Rds w vb (sv us)) :
    Calls Try.prog 40 #[va, vb] w fun e w' => e = .returned (.bool (decide (ts = us))) ∧ Grows w w' := by
  obtain ⟨ao, n, cap, rfl⟩ := ha.sl
  obtain ⟨bo, m, dap, rfl⟩ := hb.sl
  obtain ⟨hn, hc1, hc2, hc3⟩ := ha.cells
  obtain ⟨hm, hd1, hd2, hd3⟩ := hb.cells
  rw [sv_length] at hn hc1 hm hd1
  rw [← hn] at hc1
  rw [← hm] at hd1
  unfold maxLen at hc2 hd2
  have HN : Hid (n = ts.length ∧ m = us.length) := ⟨hn, hm⟩
  have HA : Aside (∀ i, i < ts.length → ∃ b off, ao = some ⟨b, off, none⟩ ∧ w.cell? ⟨b, off + i, none⟩ = some (.string ⟨(ts.getD i []).toArray⟩)) := fun i hi => by
    obtain ⟨b, off, e, hc⟩ := hc3 (by rw [sv_length]; omega)
    exact ⟨b, off, e, hc i _ (sv_get ts i hi)⟩
  have HB : Aside (∀ i, i < us.length → ∃ b off, bo = some ⟨b, off, none⟩ ∧ w.cell? ⟨b, off + i, none⟩ = some (.string ⟨(us.getD i []).toArray⟩)) := fun i hi => by
    obtain ⟨b, off, e, hc⟩ := hd3 (by rw [sv_length]; omega)
    exact ⟨b, off, e, hc i _ (sv_get us i hi)⟩
  have mixed : Try.prog.follows .mixedOrders = true := by kernel_rfl
  clear ha hb hn hm hc3 hd3
  by_cases hl : n = m
  · subst hl
    go_enter Try.func40, Try.ntmps40
    go_wp2_with fail
    go_loopg [13] n (fun kx vi wr => ∃ i : Nat, vi = .int .i64 i ∧ i ≤ n ∧ n - i ≤ kx ∧ Hid (∀ k, k < i → ts.getD k [] = us.getD k []) ∧ Hid (Grows w wr))
    case atStart => exact ⟨0, rfl, by omega, Nat.le_refl _, fun j hj => by omega, Grows.refl _⟩
    case round =>
      obtain ⟨i, rfl, hi, hkx, HJ, HGr⟩ := hrel
      by_cases hlt : i < n
      · have hltz : (i : Int) < (n : Int) := by omega
        obtain ⟨ba, oa, hba, qa⟩ := HA.out i (by have := HN.out; omega)
        obtain ⟨bb, ob, hbb, qb⟩ := HB.out i (by have := HN.out; omega)
        subst hba
        subst hbb
        have qa' := fun nq os => cell_gr (cell_up HGr.out.below qa) nq os
        have qb' := fun nq os => cell_gr (cell_up HGr.out.below qb) nq os
        have HSI : Hid (ts.getD i [] = us.getD i [] → ∀ k, k < i + 1 → ts.getD k [] = us.getD k []) := fun h k hk => by
          by_cases e : k = i
          · subst e; exact h
          · exact HJ.out k (by omega)
        have HST : Hid (ts.getD i [] ≠ us.getD i [] → decide (ts = us) = false) := fun h => decide_eq_false fun e => h (by rw [e])
        generalize ts.getD i [] = si at *
        generalize us.getD i [] = s at *
        have t0 := str_toList si
        have t1 := str_toList s
        clear qa qb
        by_cases heq : si = s
        · have HS2 : Hid _ := HSI.out heq
          subst heq
          have hbb : (si == si) = true := beq_self_eq_true si
          go_wp2_with fail
          refine wp_region_quiet_grown (by assumption) (by kernel_rfl) ?_
          repeat (go_big_quiet_step (first | fail))
          refine wpQuiet_nil ?_
          intro _ hw'
          obtain ⟨⟨nq, osq⟩, hw''⟩ := hw'
          subst hw''
          go_wp2_with fail
          go_roundg (n - (i + 1))
          case measure => omega
          case rel => exact ⟨i + 1, by go_num, by omega, Nat.le_refl _, HS2.out, HGr.out.trans ⟨nq, osq, rfl⟩⟩
        · have hne := beq_str heq
          have HS2 : Hid (decide (ts = us) = false) := HST.out heq
          clear heq
          go_wp2_with fail
          refine wp_region_quiet_grown (by assumption) (by kernel_rfl) ?_
          repeat (go_big_quiet_step (first | fail))
          refine wpQuiet_nil ?_
          intro _ hw'
          obtain ⟨⟨nq, osq⟩, hw''⟩ := hw'
          subst hw''
          go_wp2_with fail
          go_ret
          exact ⟨by rw [HS2.out]; rfl, HGr.out.trans ⟨nq, osq, rfl⟩⟩
      · have hltz : ¬ (i : Int) < (n : Int) := by omega
        have HR2 : Hid (decide (ts = us) = true) := decide_eq_true (List.ext_getElem (by have := HN.out; omega) fun k h1 h2 => by
          have := HJ.out k (by have := HN.out; omega)
          rwa [getD_at h1, getD_at h2] at this)
        go_wp2_with fail
        go_ret
        exact ⟨by rw [HR2.out]; rfl, HGr.out⟩
  · have HR2 : Hid (decide (ts = us) = false) := decide_eq_false fun e => hl (by have := HN.out; rw [e] at this; omega)
    have hlb : ((n : Int) == (m : Int)) = false := by simp; omega
    clear hl
    go_enter Try.func40, Try.ntmps40
    go_wp2_with fail
    go_ret
    exact ⟨by rw [HR2.out]; rfl, Grows.refl _⟩

set_option maxHeartbeats 4000000 in
theorem eqf_of (N : Nat) (ih : SameC N) (l m : List Tr) (hl : ∀ t ∈ l, SizeOf.sizeOf t < N) (w : World) (va vb : Value) (ha : RdsT w va l) (hb : RdsT w vb m) :
    Calls Try.prog 41 #[va, vb, .func (.func 29) #[] #[]] w fun e w' => e = .returned (.bool (allZip (l.map Tr.same) m)) ∧ Grows w w' := by
  obtain ⟨ao, n, cap, rfl⟩ := ha.sl
  obtain ⟨bo, m', dap, rfl⟩ := hb.sl
  obtain ⟨hn, hc1, hc2⟩ := ha.len
  obtain ⟨hm, hd1, hd2⟩ := hb.len
  unfold maxLen at hc2 hd2
  have HN : Hid (n = l.length ∧ m' = m.length) := ⟨hn, hm⟩
  have HH : Hid (RdsT w (.slice ao n cap) l ∧ RdsT w (.slice bo m' dap) m) := ⟨ha, hb⟩
  have HI : Aside _ := ih
  have HL : Aside _ := hl
  clear ha hb hn hm ih hl
  by_cases hll : n = m'
  · subst hll
    go_enter Try.func41, Try.ntmps41
    go_wp2_with fail
    go_loopg [17] n (fun kx vi wr => ∃ i : Nat, vi = .int .i64 i ∧ i ≤ n ∧ n - i ≤ kx ∧ Hid (∀ k (h1 : k < l.length) (h2 : k < m.length), k < i → l[k].same m[k] = true) ∧ Hid (Grows w wr))
    case atStart => exact ⟨0, rfl, by omega, Nat.le_refl _, fun j _ _ hj => by omega, Grows.refl _⟩
    case round =>
      obtain ⟨i, rfl, hi, hkx, HJ, HGr⟩ := hrel
      by_cases hlt : i < n
      · have hltz : (i : Int) < (n : Int) := by omega
        have hil : i < l.length := by have := HN.out.1; omega
        have him : i < m.length := by have := HN.out.2; omega
        have hra := RdsT.below HH.out.1 HGr.out.below
        have hrb := RdsT.below HH.out.2 HGr.out.below
        obtain ⟨ba, oa, rfl, hcella⟩ := hra.at (by omega)
        obtain ⟨bb, ob, rfl, hcellb⟩ := hrb.at (by omega)
        obtain ⟨q0, q1, q2, q3, q4, q5⟩ := hcella i hil
        obtain ⟨r0, r1, r2, r3, r4, r5⟩ := hcellb i him
        have okx := hra.ok l[i] (List.getElem_mem hil)
        have oky := hrb.ok m[i] (List.getElem_mem him)
        have hsz := HL.out l[i] (List.getElem_mem hil)
        have HSI : Hid (l[i].same m[i] = true → ∀ k (h1 : k < l.length) (h2 : k < m.length), k < i + 1 → l[k].same m[k] = true) := fun h k h1 h2 hk => by
          by_cases e : k = i
          · subst e; exact h
          · exact HJ.out k h1 h2 (by omega)
        have HST : Hid (l[i].same m[i] = false → allZip (l.map Tr.same) m = false) := fun h => allZip_bad i hil him h
        generalize l[i] = x at *
        generalize m[i] = y at *
        obtain ⟨at5, nt5, ct5, ak5, nk5, ck5, g1, g2, -, -, -, -⟩ := okx.lens
        obtain ⟨at4, nt4, ct4, ak4, nk4, ck4, g3, g4, -, -, -, -⟩ := oky.lens
        obtain ⟨V, hV⟩ : ∃ V, V = (wr.alloc (.cells #[.int .i64 x.k, .int .i64 x.d, x.tv, .int .i64 x.lo, .int .i64 x.hi, x.kv] 27)).alloc (.cells #[.int .i64 y.k, .int .i64 y.d, y.tv, .int .i64 y.lo, .int .i64 y.hi, y.kv] 27) := ⟨_, rfl⟩
        have gV : Grows wr V := by rw [hV]; exact (Grows.alloc _ _).trans (Grows.alloc _ _)
        have kR := HI.out x hsz y V (okx.up gV.below) (oky.up gV.below)
        rw [hV, g1, g2, g3, g4] at kR
        rw [g1, g2, g3, g4] at hV
        rw [g1] at q2
        rw [g2] at q5
        rw [g3] at r2
        rw [g4] at r5
        have r0' := fun o => cell_alloc_sl o r0
        have r1' := fun o => cell_alloc_sl o r1
        have r2' := fun o => cell_alloc_sl o r2
        have r3' := fun o => cell_alloc_sl o r3
        have r4' := fun o => cell_alloc_sl o r4
        have r5' := fun o => cell_alloc_sl o r5
        have HV : Hid _ := hV
        have HGV : Hid (Grows w V) := HGr.out.trans gV
        generalize x.same y = R at *
        generalize x.k = xk at *
        generalize x.d = xd at *
        generalize x.lo = xl at *
        generalize x.hi = xh at *
        generalize y.k = yk at *
        generalize y.d = yd at *
        generalize y.lo = yl at *
        generalize y.hi = yh at *
        clear hra hrb hcella hcellb okx oky hsz g1 g2 g3 g4 gV hV
        go_wp2_with fail
        refine kR.mono ?_
        rintro e w6 ⟨rfl, g6⟩
        rw [← HV.out] at g6
        have HG6 : Hid (Grows w w6) := HGV.out.trans g6
        clear kR g6 q0 q1 q2 q3 q4 q5 r0 r1 r2 r3 r4 r5 r0' r1' r2' r3' r4' r5'
        cases R with
        | false =>
          have HS2 : Hid (allZip (l.map Tr.same) m = false) := HST.out rfl
          go_wp2_with fail
          go_ret
          exact ⟨by rw [HS2.out]; rfl, HG6.out⟩
        | true =>
          have HS2 : Hid _ := HSI.out rfl
          go_wp2_with fail
          go_roundg (n - (i + 1))
          case measure => omega
          case rel => exact ⟨i + 1, by go_num, by omega, Nat.le_refl _, HS2.out, HG6.out⟩
      · have hltz : ¬ (i : Int) < (n : Int) := by omega
        have HR2 : Hid (allZip (l.map Tr.same) m = true) := by
          have h1 := HN.out
          exact allZip_good (by omega) fun k hk hm => HJ.out k hk hm (by omega)
        go_wp2_with fail
        go_ret
        exact ⟨by rw [HR2.out]; rfl, HGr.out⟩
  · have hlb : ((n : Int) == (m' : Int)) = false := by simp; omega
    have HR2 : Hid (allZip (l.map Tr.same) m = false) := allZip_len (by have := HN.out; omega)
    clear hll
    go_enter Try.func41, Try.ntmps41
    go_wp2_with fail
    go_ret
    exact ⟨by rw [HR2.out]; rfl, Grows.refl _⟩
end Go.Proofs.Ytlfkhinmncbkcaa
