/- A call on both: Read, List, CutAt, Cut, On. -/
import Derived.Test.YtdcoeebpknipdaaBo0
namespace Go.Proofs.Ytdcoeebpknipdaa
open Go.RowKit Go.Maps Go.Sort
set_option linter.unusedVariables false

set_option maxRecDepth 100000 in
set_option maxHeartbeats 3200000 in
theorem both_7 (w0 w : World) (dp rp m : Nat) (sd : St) (tr : RSt) (K n : Int) (A B : Str) (ua : Option Addr) (uc : Nat) (bs : Str) (h : Pp w0 w dp rp m sd tr) (hm : m < 150) (ok : OpM.Ok w0 ⟨K, A, B, .slice ua bs.length uc, bs, n⟩) (hk : absN K % 12 = 7) :
    Calls Try.prog 13 #[.pointer (some ⟨dp, 0, none⟩), .pointer (some ⟨rp, 0, none⟩), .agg #[.int .i64 K, .string ⟨A.toArray⟩, .string ⟨B.toArray⟩, .slice ua bs.length uc, .int .i64 n]] w fun e w' => e = .returned (.bool true) ∧ Bth w0 w' dp rp m := by
  have mixed : Try.prog.follows .mixedOrders = true := by kernel_rfl
  obtain ⟨W, hW⟩ : ∃ W, W = w.alloc (.cells #[.int .i64 K, .string ⟨A.toArray⟩, .string ⟨B.toArray⟩, .slice ua bs.length uc, .int .i64 n] 31) := ⟨_, rfl⟩
  have hq := h.box hW
  have kAb := abs_any W K ok.k1 ok.k2
  have hab : (absN K : Int) % 12 = 7 := by omega
  have HR : Hid (Rel sd tr) := h.rel
  have HM : Hid (NmS sd) := h.nm
  have HB : Hid (tr.n ≤ m ∧ tr.part ≤ 9223372036854775807 ∧ m < 150) := ⟨h.n, h.part, hm⟩
  have HW : Hid (W = w.alloc (.cells #[.int .i64 K, .string ⟨A.toArray⟩, .string ⟨B.toArray⟩, .slice ua bs.length uc, .int .i64 n] 31)) := hW
  have hA : A.length ≤ maxLen := by have := ok.a; simp only at this; unfold maxLen; omega
  have hBl : B.length ≤ maxLen := by have := ok.b; simp only at this; unfold maxLen; omega
  have HOK : Hid (OpM.Ok w0 ⟨K, A, B, .slice ua bs.length uc, bs, n⟩) := ok
  have hN : m * 2097152 + bs.length + bs.length ≤ 140737488355328 := by have := ok.rl; simp only at this; omega
  have hN2 : m * 2097152 + bs.length + bs.length ≤ (m + 1) * 2097152 := by have := ok.rl; simp only at this; omega
  have hop : sd.ops < 1000000 := by have := h.n; have := h.rel.n; omega
  have hopt : tr.n < 1000000 := by have := h.n; omega
  have hpt := h.part
  have hS := h.rel.sp.srt
  have HQ : Hid (Pq w0 W dp rp (m * 2097152) sd tr w.heap.size 31 #[.int .i64 K, .string ⟨A.toArray⟩, .string ⟨B.toArray⟩, .slice ua bs.length uc, .int .i64 n]) := hq
  obtain ⟨bx, hbx⟩ : ∃ b, b = w.heap.size := ⟨_, rfl⟩
  rw [← hbx] at HQ
  have HN : Hid (m * 2097152 + bs.length + bs.length ≤ 140737488355328 ∧ m * 2097152 + bs.length + bs.length ≤ (m + 1) * 2097152 ∧ A.length ≤ maxLen ∧ B.length ≤ maxLen ∧ sd.ops < 1000000 ∧ tr.n < 1000000 ∧ tr.part ≤ 9223372036854775807 ∧ Srt tr.fs) := ⟨hN, hN2, hA, hBl, hop, hopt, hpt, hS⟩
  have HNN : Hid (m * 2097152 ≤ 140737488355328 ∧ m * 2097152 ≤ (m + 1) * 2097152) := by apply hide; omega
  have c0 := HQ.out.box.cell 0 _ rfl
  clear hq h ok hW hm hA hBl hN hN2 hop hopt hpt hS hk
  go_enter Try.func13, Try.ntmps13
  go_wp2_with fail
  rw [← HW.out]
  go_wp2_with fail
  refine kAb.mono ?_
  rintro e wq ⟨rfl, rfl⟩
  clear kAb
  go_upto_region 14 with fail
  rw [← hbx]
  try rw [hab]
  clear hbx hab
  have k1 := pq_read HQ.out A HN.out.2.2.1 HNN.out.1
  have c1 := HQ.out.box.cell 1 _ rfl
  obtain ⟨e1, e2⟩ := HR.out.read A
  obtain ⟨c, hc⟩ : ∃ c, c = rfF sd A [] := ⟨_, rfl⟩
  obtain ⟨l, hl⟩ : ∃ l, l = rdC sd A := ⟨_, rfl⟩
  rw [← hc, ← hl] at k1
  rw [← hc] at e1
  rw [← hl] at e2
  have HE : Hid (rrc tr A A = c ∧ rrd tr A = l) := ⟨e1.symm, e2.symm⟩
  clear e1 e2 hc hl c0
  go_wp2_with fail
  refine k1.mono ?_
  rintro e w5 ⟨v5, rfl, r5, b5⟩
  obtain ⟨va, vc, rfl⟩ : ∃ a c, v5 = .slice a l.length c := by obtain ⟨a, c, e, _⟩ := r5; exact ⟨_, _, e⟩
  have HQ5 : Hid _ := HQ.out.below b5
  have HR5 : Hid (Reads w5 (.slice va l.length vc) l) := r5
  have k2 := pq_rread HQ5.out A HN.out.2.2.1 HNN.out.1
  rw [HE.out.1, HE.out.2] at k2
  have d1 := HQ5.out.box.cell 1 _ rfl
  clear k1 r5 b5 c1
  go_wp2_with fail
  refine k2.mono ?_
  rintro e w6 ⟨v6, rfl, r6, b6⟩
  obtain ⟨vb, vd, rfl⟩ : ∃ a c, v6 = .slice a l.length c := by obtain ⟨a, c, e, _⟩ := r6; exact ⟨_, _, e⟩
  have HQ6 : Hid _ := HQ5.out.below b6
  have cv1 := conv_string w6 _ _ (HR5.out.below b6)
  have cv2 := conv_string w6 _ _ r6
  clear k2 r6 b6 d1
  go_wp2_with fail
  go_ret
  exact ⟨rfl, ⟨_, _, Pq.pp (t0 := tr) HQ6.out HNN.out.2 HR.out (Nat.le_succ _) HB.out.1 HB.out.2.1 HM.out⟩⟩
set_option maxRecDepth 100000 in
set_option maxHeartbeats 3200000 in
theorem both_8 (w0 w : World) (dp rp m : Nat) (sd : St) (tr : RSt) (K n : Int) (A B : Str) (ua : Option Addr) (uc : Nat) (bs : Str) (h : Pp w0 w dp rp m sd tr) (hm : m < 150) (ok : OpM.Ok w0 ⟨K, A, B, .slice ua bs.length uc, bs, n⟩) (hk : absN K % 12 = 8) :
    Calls Try.prog 13 #[.pointer (some ⟨dp, 0, none⟩), .pointer (some ⟨rp, 0, none⟩), .agg #[.int .i64 K, .string ⟨A.toArray⟩, .string ⟨B.toArray⟩, .slice ua bs.length uc, .int .i64 n]] w fun e w' => e = .returned (.bool true) ∧ Bth w0 w' dp rp m := by
  have mixed : Try.prog.follows .mixedOrders = true := by kernel_rfl
  obtain ⟨W, hW⟩ : ∃ W, W = w.alloc (.cells #[.int .i64 K, .string ⟨A.toArray⟩, .string ⟨B.toArray⟩, .slice ua bs.length uc, .int .i64 n] 31) := ⟨_, rfl⟩
  have hq := h.box hW
  have kAb := abs_any W K ok.k1 ok.k2
  have hab : (absN K : Int) % 12 = 8 := by omega
  have HR : Hid (Rel sd tr) := h.rel
  have HM : Hid (NmS sd) := h.nm
  have HB : Hid (tr.n ≤ m ∧ tr.part ≤ 9223372036854775807 ∧ m < 150) := ⟨h.n, h.part, hm⟩
  have HW : Hid (W = w.alloc (.cells #[.int .i64 K, .string ⟨A.toArray⟩, .string ⟨B.toArray⟩, .slice ua bs.length uc, .int .i64 n] 31)) := hW
  have hA : A.length ≤ maxLen := by have := ok.a; simp only at this; unfold maxLen; omega
  have hBl : B.length ≤ maxLen := by have := ok.b; simp only at this; unfold maxLen; omega
  have HOK : Hid (OpM.Ok w0 ⟨K, A, B, .slice ua bs.length uc, bs, n⟩) := ok
  have hN : m * 2097152 + bs.length + bs.length ≤ 140737488355328 := by have := ok.rl; simp only at this; omega
  have hN2 : m * 2097152 + bs.length + bs.length ≤ (m + 1) * 2097152 := by have := ok.rl; simp only at this; omega
  have hop : sd.ops < 1000000 := by have := h.n; have := h.rel.n; omega
  have hopt : tr.n < 1000000 := by have := h.n; omega
  have hpt := h.part
  have hS := h.rel.sp.srt
  have HQ : Hid (Pq w0 W dp rp (m * 2097152) sd tr w.heap.size 31 #[.int .i64 K, .string ⟨A.toArray⟩, .string ⟨B.toArray⟩, .slice ua bs.length uc, .int .i64 n]) := hq
  obtain ⟨bx, hbx⟩ : ∃ b, b = w.heap.size := ⟨_, rfl⟩
  rw [← hbx] at HQ
  have HN : Hid (m * 2097152 + bs.length + bs.length ≤ 140737488355328 ∧ m * 2097152 + bs.length + bs.length ≤ (m + 1) * 2097152 ∧ A.length ≤ maxLen ∧ B.length ≤ maxLen ∧ sd.ops < 1000000 ∧ tr.n < 1000000 ∧ tr.part ≤ 9223372036854775807 ∧ Srt tr.fs) := ⟨hN, hN2, hA, hBl, hop, hopt, hpt, hS⟩
  have HNN : Hid (m * 2097152 ≤ 140737488355328 ∧ m * 2097152 ≤ (m + 1) * 2097152) := by apply hide; omega
  have c0 := HQ.out.box.cell 0 _ rfl
  clear hq h ok hW hm hA hBl hN hN2 hop hopt hpt hS hk
  go_enter Try.func13, Try.ntmps13
  go_wp2_with fail
  rw [← HW.out]
  go_wp2_with fail
  refine kAb.mono ?_
  rintro e wq ⟨rfl, rfl⟩
  clear kAb
  go_upto_region 18 with fail
  rw [← hbx]
  try rw [hab]
  clear hbx hab
  have HC : Hid (lstN sd B = rls tr B) := HR.out.list B
  have hSig0 : BxA wq.drew bx 31 #[.int .i64 K, .string ⟨A.toArray⟩, .string ⟨B.toArray⟩, .slice ua bs.length uc, .int .i64 n] := HQ.out.box
  have hS00 : Pq w0 wq.drew dp rp (m * 2097152) sd tr bx 31 #[.int .i64 K, .string ⟨A.toArray⟩, .string ⟨B.toArray⟩, .slice ua bs.length uc, .int .i64 n] := pq_drew HQ.out
  clear c0
  refine wp_region_invF (β := Value × Value × Value × Value × Value × Value × Value × Value × Value × Value) (fun a0 xq => ((((((((((a0.put (some 99) (xq.1)).put (some 100) (xq.2.1)).put (some 101) (xq.2.2.1)).put (some 102) (xq.2.2.2.1)).put (some 103) (xq.2.2.2.2.1)).put (some 104) (xq.2.2.2.2.2.1)).put (some 105) (xq.2.2.2.2.2.2.1)).put (some 106) (xq.2.2.2.2.2.2.2.1)).put (some 107) (xq.2.2.2.2.2.2.2.2.1)).put (some 6) (xq.2.2.2.2.2.2.2.2.2))) ?fr99 (fun xq d w' => (BxA w' bx 31 #[.int .i64 K, .string ⟨A.toArray⟩, .string ⟨B.toArray⟩, .slice ua bs.length uc, .int .i64 n]) ∧ ((d 0 = true → (xq.1) = .pointer (some ⟨dp, 0, none⟩)) ∧ (d 1 = true → (xq.2.1) = .pointer (some ⟨bx, 2, none⟩)) ∧ (d 2 = true → (xq.2.2.1) = .string ⟨B.toArray⟩) ∧ (d 4 = true → (xq.2.2.2.2.1) = .pointer (some ⟨rp, 0, none⟩)) ∧ (d 5 = true → (xq.2.2.2.2.2.1) = .pointer (some ⟨bx, 2, none⟩)) ∧ (d 6 = true → (xq.2.2.2.2.2.2.1) = .string ⟨B.toArray⟩)) ∧ ∃ j : Nat, j ≤ 4 ∧ (d 3 = decide (0 < j) ∧ d 7 = decide (1 < j) ∧ d 8 = decide (2 < j) ∧ d 9 = decide (3 < j)) ∧ ((j = 0 → Pq w0 w' dp rp (m * 2097152) (sd) (tr) bx 31 #[.int .i64 K, .string ⟨A.toArray⟩, .string ⟨B.toArray⟩, .slice ua bs.length uc, .int .i64 n]) ∧ (j = 1 → Rds w' (xq.2.2.2.1) (sv (lstN sd B)) ∧ Pq w0 w' dp rp (m * 2097152) (sd) (tr) bx 31 #[.int .i64 K, .string ⟨A.toArray⟩, .string ⟨B.toArray⟩, .slice ua bs.length uc, .int .i64 n]) ∧ (j = 2 → Rds w' (xq.2.2.2.1) (sv (lstN sd B)) ∧ Rds w' (xq.2.2.2.2.2.2.2.1) (sv (rls tr B)) ∧ Pq w0 w' dp rp (m * 2097152) (sd) (tr) bx 31 #[.int .i64 K, .string ⟨A.toArray⟩, .string ⟨B.toArray⟩, .slice ua bs.length uc, .int .i64 n]) ∧ (j = 3 → (xq.2.2.2.2.2.2.2.2.1) = .bool true ∧ Pq w0 w' dp rp (m * 2097152) (sd) (tr) bx 31 #[.int .i64 K, .string ⟨A.toArray⟩, .string ⟨B.toArray⟩, .slice ua bs.length uc, .int .i64 n]) ∧ (j = 4 → (xq.2.2.2.2.2.2.2.2.2) = .bool true ∧ Pq w0 w' dp rp (m * 2097152) (sd) (tr) bx 31 #[.int .i64 K, .string ⟨A.toArray⟩, .string ⟨B.toArray⟩, .slice ua bs.length uc, .int .i64 n]))) ?lay99 mixed (by kernel_rfl) ?h099 ?hs99 ?he99
  case lay99 =>
    intro xq
    simp only [Act.put, List.setIfInBounds_toArray, List.set_cons_zero, List.set_cons_succ]
    rfl
  case h099 =>
    refine ⟨(undef, undef, undef, undef, undef, undef, undef, undef, undef, .bool false), rfl, ?sig99, ⟨(fun h => by cases h), (fun h => by cases h), (fun h => by cases h), (fun h => by cases h), (fun h => by cases h), (fun h => by cases h)⟩, 0, Nat.zero_le _, ⟨rfl, rfl, rfl, rfl⟩, ?S099, (fun h => by cases h), (fun h => by cases h), (fun h => by cases h), (fun h => by cases h)⟩
    case sig99 => exact hSig0
    case S099 => exact fun _ => hS00
  case hs99 =>
    refine ⟨?_, ?_, ?_, ?_, ?_, ?_, ?_, ?_, ?_, ?_, trivial⟩
    · rintro d ⟨x99, x100, x101, x102, x103, x104, x105, x106, x107, x6⟩ w' hI hd hdp KQ hK
      dsimp only at hI
      obtain ⟨hS, ⟨f0, f1, f2, f4, f5, f6⟩, j, hj, ⟨dd3, dd7, dd8, dd9⟩, ⟨p0, p1, p2, p3, p4⟩⟩ := hI
      have HF : Hid _ := And.intro hS (And.intro (And.intro f0 (And.intro f1 (And.intro f2 (And.intro f4 (And.intro f5 f6))))) (And.intro hj (And.intro (And.intro dd3 (And.intro dd7 (And.intro dd8 dd9))) (And.intro p0 (And.intro p1 (And.intro p2 (And.intro p3 p4)))))))
      clear hS f0 f1 f2 f4 f5 f6 hj dd3 dd7 dd8 dd9 p0 p1 p2 p3 p4 hdp hd
      refine Opn.mk ?_
      dsimp only
      go_simp
      obtain ⟨hS, ⟨f0, f1, f2, f4, f5, f6⟩, hj, ⟨dd3, dd7, dd8, dd9⟩, ⟨p0, p1, p2, p3, p4⟩⟩ := HF.out
      exact hK.out (.pointer (some ⟨dp, 0, none⟩), x100, x101, x102, x103, x104, x105, x106, x107, x6) _ ⟨hS, ⟨(fun _ => rfl), (fun h => f1 (upd_ne h (by decide))), (fun h => f2 (upd_ne h (by decide))), (fun h => f4 (upd_ne h (by decide))), (fun h => f5 (upd_ne h (by decide))), (fun h => f6 (upd_ne h (by decide)))⟩, j, hj, ⟨((upd_no (by decide)).trans dd3), ((upd_no (by decide)).trans dd7), ((upd_no (by decide)).trans dd8), ((upd_no (by decide)).trans dd9)⟩, ⟨p0, p1, p2, p3, p4⟩⟩
    · rintro d ⟨x99, x100, x101, x102, x103, x104, x105, x106, x107, x6⟩ w' hI hd hdp KQ hK
      dsimp only at hI
      obtain ⟨hS, ⟨f0, f1, f2, f4, f5, f6⟩, j, hj, ⟨dd3, dd7, dd8, dd9⟩, ⟨p0, p1, p2, p3, p4⟩⟩ := hI
      have HF : Hid _ := And.intro hS (And.intro (And.intro f0 (And.intro f1 (And.intro f2 (And.intro f4 (And.intro f5 f6))))) (And.intro hj (And.intro (And.intro dd3 (And.intro dd7 (And.intro dd8 dd9))) (And.intro p0 (And.intro p1 (And.intro p2 (And.intro p3 p4)))))))
      clear hS f0 f1 f2 f4 f5 f6 hj dd3 dd7 dd8 dd9 p0 p1 p2 p3 p4 hdp hd
      refine Opn.mk ?_
      dsimp only
      go_simp
      obtain ⟨hS, ⟨f0, f1, f2, f4, f5, f6⟩, hj, ⟨dd3, dd7, dd8, dd9⟩, ⟨p0, p1, p2, p3, p4⟩⟩ := HF.out
      exact hK.out (x99, .pointer (some ⟨bx, 2, none⟩), x101, x102, x103, x104, x105, x106, x107, x6) _ ⟨hS, ⟨(fun h => f0 (upd_ne h (by decide))), (fun _ => rfl), (fun h => f2 (upd_ne h (by decide))), (fun h => f4 (upd_ne h (by decide))), (fun h => f5 (upd_ne h (by decide))), (fun h => f6 (upd_ne h (by decide)))⟩, j, hj, ⟨((upd_no (by decide)).trans dd3), ((upd_no (by decide)).trans dd7), ((upd_no (by decide)).trans dd8), ((upd_no (by decide)).trans dd9)⟩, ⟨p0, p1, p2, p3, p4⟩⟩
    · rintro d ⟨x99, x100, x101, x102, x103, x104, x105, x106, x107, x6⟩ w' hI hd hdp KQ hK
      dsimp only at hI
      obtain ⟨hS, ⟨f0, f1, f2, f4, f5, f6⟩, j, hj, ⟨dd3, dd7, dd8, dd9⟩, ⟨p0, p1, p2, p3, p4⟩⟩ := hI
      obtain rfl := f1 (hdp 1 (by decide +kernel))
      have cc : w'.cell? ⟨bx, 2, none⟩ = some (.string ⟨B.toArray⟩) := BxA.cell hS 2 _ rfl
      have HF : Hid _ := And.intro hS (And.intro (And.intro f0 (And.intro f1 (And.intro f2 (And.intro f4 (And.intro f5 f6))))) (And.intro hj (And.intro (And.intro dd3 (And.intro dd7 (And.intro dd8 dd9))) (And.intro p0 (And.intro p1 (And.intro p2 (And.intro p3 p4)))))))
      clear hS f0 f1 f2 f4 f5 f6 hj dd3 dd7 dd8 dd9 p0 p1 p2 p3 p4 hdp hd
      refine Opn.mk ?_
      dsimp only
      go_simp
      obtain ⟨hS, ⟨f0, f1, f2, f4, f5, f6⟩, hj, ⟨dd3, dd7, dd8, dd9⟩, ⟨p0, p1, p2, p3, p4⟩⟩ := HF.out
      exact hK.out (x99, .pointer (some ⟨bx, 2, none⟩), .string ⟨B.toArray⟩, x102, x103, x104, x105, x106, x107, x6) _ ⟨hS, ⟨(fun h => f0 (upd_ne h (by decide))), (fun _ => rfl), (fun _ => rfl), (fun h => f4 (upd_ne h (by decide))), (fun h => f5 (upd_ne h (by decide))), (fun h => f6 (upd_ne h (by decide)))⟩, j, hj, ⟨((upd_no (by decide)).trans dd3), ((upd_no (by decide)).trans dd7), ((upd_no (by decide)).trans dd8), ((upd_no (by decide)).trans dd9)⟩, ⟨p0, p1, p2, p3, p4⟩⟩
    · rintro d ⟨x99, x100, x101, x102, x103, x104, x105, x106, x107, x6⟩ w' hI hd hdp KQ hK
      dsimp only at hI
      obtain ⟨hS, ⟨f0, f1, f2, f4, f5, f6⟩, j, hj, ⟨dd3, dd7, dd8, dd9⟩, ⟨p0, p1, p2, p3, p4⟩⟩ := hI
      obtain rfl := f0 (hdp 0 (by decide +kernel))
      obtain rfl := f2 (hdp 2 (by decide +kernel))
      obtain rfl := ph_zero dd3 hd
      have s := p0 rfl
      clear p0 p1 p2 p3 p4 hj
      have kk := pq_list s B
      have HG : Hid _ := And.intro hS s
      clear hS s
      have HF : Hid _ := And.intro (And.intro f0 (And.intro f1 (And.intro f2 (And.intro f4 (And.intro f5 f6))))) (And.intro dd3 (And.intro dd7 (And.intro dd8 dd9)))
      clear f0 f1 f2 f4 f5 f6 dd3 dd7 dd8 dd9 hdp hd
      refine Opn.mk ?_
      dsimp only
      go_simp
      go_wp2_with (first | (go_at_call 19; with_reducible refine kk.mono ?_; rintro e5 w5 ⟨v5, rfl, G5, B5⟩))
      obtain ⟨hS, s⟩ := HG.out
      obtain ⟨⟨f0, f1, f2, f4, f5, f6⟩, ⟨dd3, dd7, dd8, dd9⟩⟩ := HF.out
      refine hK.out (.pointer (some ⟨dp, 0, none⟩), x100, .string ⟨B.toArray⟩, v5, x103, x104, x105, x106, x107, x6) _ ⟨?sg, ⟨(fun _ => rfl), (fun h => f1 (upd_ne h (by decide))), (fun _ => rfl), (fun h => f4 (upd_ne h (by decide))), (fun h => f5 (upd_ne h (by decide))), (fun h => f6 (upd_ne h (by decide)))⟩, 1, by decide, ⟨(by simp [upd]), ((upd_no (by decide)).trans (dd7.trans (by decide))), ((upd_no (by decide)).trans (dd8.trans (by decide))), ((upd_no (by decide)).trans (dd9.trans (by decide)))⟩, ⟨(fun h => absurd h (by decide)), (fun _ => ?new), (fun h => absurd h (by decide)), (fun h => absurd h (by decide)), (fun h => absurd h (by decide))⟩⟩
      case sg => exact (s.below B5).box
      case new =>
        exact ⟨G5, s.below B5⟩
    · rintro d ⟨x99, x100, x101, x102, x103, x104, x105, x106, x107, x6⟩ w' hI hd hdp KQ hK
      dsimp only at hI
      obtain ⟨hS, ⟨f0, f1, f2, f4, f5, f6⟩, j, hj, ⟨dd3, dd7, dd8, dd9⟩, ⟨p0, p1, p2, p3, p4⟩⟩ := hI
      have HF : Hid _ := And.intro hS (And.intro (And.intro f0 (And.intro f1 (And.intro f2 (And.intro f4 (And.intro f5 f6))))) (And.intro hj (And.intro (And.intro dd3 (And.intro dd7 (And.intro dd8 dd9))) (And.intro p0 (And.intro p1 (And.intro p2 (And.intro p3 p4)))))))
      clear hS f0 f1 f2 f4 f5 f6 hj dd3 dd7 dd8 dd9 p0 p1 p2 p3 p4 hdp hd
      refine Opn.mk ?_
      dsimp only
      go_simp
      obtain ⟨hS, ⟨f0, f1, f2, f4, f5, f6⟩, hj, ⟨dd3, dd7, dd8, dd9⟩, ⟨p0, p1, p2, p3, p4⟩⟩ := HF.out
      exact hK.out (x99, x100, x101, x102, .pointer (some ⟨rp, 0, none⟩), x104, x105, x106, x107, x6) _ ⟨hS, ⟨(fun h => f0 (upd_ne h (by decide))), (fun h => f1 (upd_ne h (by decide))), (fun h => f2 (upd_ne h (by decide))), (fun _ => rfl), (fun h => f5 (upd_ne h (by decide))), (fun h => f6 (upd_ne h (by decide)))⟩, j, hj, ⟨((upd_no (by decide)).trans dd3), ((upd_no (by decide)).trans dd7), ((upd_no (by decide)).trans dd8), ((upd_no (by decide)).trans dd9)⟩, ⟨p0, p1, p2, p3, p4⟩⟩
    · rintro d ⟨x99, x100, x101, x102, x103, x104, x105, x106, x107, x6⟩ w' hI hd hdp KQ hK
      dsimp only at hI
      obtain ⟨hS, ⟨f0, f1, f2, f4, f5, f6⟩, j, hj, ⟨dd3, dd7, dd8, dd9⟩, ⟨p0, p1, p2, p3, p4⟩⟩ := hI
      have HF : Hid _ := And.intro hS (And.intro (And.intro f0 (And.intro f1 (And.intro f2 (And.intro f4 (And.intro f5 f6))))) (And.intro hj (And.intro (And.intro dd3 (And.intro dd7 (And.intro dd8 dd9))) (And.intro p0 (And.intro p1 (And.intro p2 (And.intro p3 p4)))))))
      clear hS f0 f1 f2 f4 f5 f6 hj dd3 dd7 dd8 dd9 p0 p1 p2 p3 p4 hdp hd
      refine Opn.mk ?_
      dsimp only
      go_simp
      obtain ⟨hS, ⟨f0, f1, f2, f4, f5, f6⟩, hj, ⟨dd3, dd7, dd8, dd9⟩, ⟨p0, p1, p2, p3, p4⟩⟩ := HF.out
      exact hK.out (x99, x100, x101, x102, x103, .pointer (some ⟨bx, 2, none⟩), x105, x106, x107, x6) _ ⟨hS, ⟨(fun h => f0 (upd_ne h (by decide))), (fun h => f1 (upd_ne h (by decide))), (fun h => f2 (upd_ne h (by decide))), (fun h => f4 (upd_ne h (by decide))), (fun _ => rfl), (fun h => f6 (upd_ne h (by decide)))⟩, j, hj, ⟨((upd_no (by decide)).trans dd3), ((upd_no (by decide)).trans dd7), ((upd_no (by decide)).trans dd8), ((upd_no (by decide)).trans dd9)⟩, ⟨p0, p1, p2, p3, p4⟩⟩
    · rintro d ⟨x99, x100, x101, x102, x103, x104, x105, x106, x107, x6⟩ w' hI hd hdp KQ hK
      dsimp only at hI
      obtain ⟨hS, ⟨f0, f1, f2, f4, f5, f6⟩, j, hj, ⟨dd3, dd7, dd8, dd9⟩, ⟨p0, p1, p2, p3, p4⟩⟩ := hI
      obtain rfl := f5 (hdp 5 (by decide +kernel))
      have cc : w'.cell? ⟨bx, 2, none⟩ = some (.string ⟨B.toArray⟩) := BxA.cell hS 2 _ rfl
      have HF : Hid _ := And.intro hS (And.intro (And.intro f0 (And.intro f1 (And.intro f2 (And.intro f4 (And.intro f5 f6))))) (And.intro hj (And.intro (And.intro dd3 (And.intro dd7 (And.intro dd8 dd9))) (And.intro p0 (And.intro p1 (And.intro p2 (And.intro p3 p4)))))))
      clear hS f0 f1 f2 f4 f5 f6 hj dd3 dd7 dd8 dd9 p0 p1 p2 p3 p4 hdp hd
      refine Opn.mk ?_
      dsimp only
      go_simp
      obtain ⟨hS, ⟨f0, f1, f2, f4, f5, f6⟩, hj, ⟨dd3, dd7, dd8, dd9⟩, ⟨p0, p1, p2, p3, p4⟩⟩ := HF.out
      exact hK.out (x99, x100, x101, x102, x103, .pointer (some ⟨bx, 2, none⟩), .string ⟨B.toArray⟩, x106, x107, x6) _ ⟨hS, ⟨(fun h => f0 (upd_ne h (by decide))), (fun h => f1 (upd_ne h (by decide))), (fun h => f2 (upd_ne h (by decide))), (fun h => f4 (upd_ne h (by decide))), (fun _ => rfl), (fun _ => rfl)⟩, j, hj, ⟨((upd_no (by decide)).trans dd3), ((upd_no (by decide)).trans dd7), ((upd_no (by decide)).trans dd8), ((upd_no (by decide)).trans dd9)⟩, ⟨p0, p1, p2, p3, p4⟩⟩
    · rintro d ⟨x99, x100, x101, x102, x103, x104, x105, x106, x107, x6⟩ w' hI hd hdp KQ hK
      dsimp only at hI
      obtain ⟨hS, ⟨f0, f1, f2, f4, f5, f6⟩, j, hj, ⟨dd3, dd7, dd8, dd9⟩, ⟨p0, p1, p2, p3, p4⟩⟩ := hI
      obtain rfl := f4 (hdp 4 (by decide +kernel))
      obtain rfl := f6 (hdp 6 (by decide +kernel))
      obtain rfl := ph_eq (k := 0) dd7 hd dd3 (hdp 3 (by decide +kernel))
      have s := p1 rfl
      clear p0 p1 p2 p3 p4 hj
      obtain ⟨ra, s⟩ := s
      have kk := pq_rlist s HR.out B HN.out.2.2.2.1
      have HG : Hid _ := And.intro hS (And.intro ra s)
      clear hS s ra
      have HF : Hid _ := And.intro (And.intro f0 (And.intro f1 (And.intro f2 (And.intro f4 (And.intro f5 f6))))) (And.intro dd3 (And.intro dd7 (And.intro dd8 dd9)))
      clear f0 f1 f2 f4 f5 f6 dd3 dd7 dd8 dd9 hdp hd
      refine Opn.mk ?_
      dsimp only
      go_simp
      go_wp2_with (first | (go_at_call 36; with_reducible refine kk.mono ?_; rintro e5 w5 ⟨v5, rfl, G5, B5⟩))
      obtain ⟨hS, ra, s⟩ := HG.out
      obtain ⟨⟨f0, f1, f2, f4, f5, f6⟩, ⟨dd3, dd7, dd8, dd9⟩⟩ := HF.out
      refine hK.out (x99, x100, x101, x102, .pointer (some ⟨rp, 0, none⟩), x104, .string ⟨B.toArray⟩, v5, x107, x6) _ ⟨?sg, ⟨(fun h => f0 (upd_ne h (by decide))), (fun h => f1 (upd_ne h (by decide))), (fun h => f2 (upd_ne h (by decide))), (fun _ => rfl), (fun h => f5 (upd_ne h (by decide))), (fun _ => rfl)⟩, 2, by decide, ⟨((upd_no (by decide)).trans (dd3.trans (by decide))), (by simp [upd]), ((upd_no (by decide)).trans (dd8.trans (by decide))), ((upd_no (by decide)).trans (dd9.trans (by decide)))⟩, ⟨(fun h => absurd h (by decide)), (fun h => absurd h (by decide)), (fun _ => ?new), (fun h => absurd h (by decide)), (fun h => absurd h (by decide))⟩⟩
      case sg => exact (s.below B5).box
      case new =>
        exact ⟨ra.below B5, G5, s.below B5⟩
    · rintro d ⟨x99, x100, x101, x102, x103, x104, x105, x106, x107, x6⟩ w' hI hd hdp KQ hK
      dsimp only at hI
      obtain ⟨hS, ⟨f0, f1, f2, f4, f5, f6⟩, j, hj, ⟨dd3, dd7, dd8, dd9⟩, ⟨p0, p1, p2, p3, p4⟩⟩ := hI
      obtain rfl := ph_eq (k := 1) dd8 hd dd7 (hdp 7 (by decide +kernel))
      have s := p2 rfl
      clear p0 p1 p2 p3 p4 hj
      obtain ⟨ra, rb, s⟩ := s
      have kk := refsame_any w' x102 x106 _ _ ra rb
      rw [decide_eq_true HC.out] at kk
      have HG : Hid _ := And.intro hS s
      clear hS s ra rb
      have HF : Hid _ := And.intro (And.intro f0 (And.intro f1 (And.intro f2 (And.intro f4 (And.intro f5 f6))))) (And.intro dd3 (And.intro dd7 (And.intro dd8 dd9)))
      clear f0 f1 f2 f4 f5 f6 dd3 dd7 dd8 dd9 hdp hd
      refine Opn.mk ?_
      dsimp only
      go_simp
      go_wp2_with (first | (go_at_call 21; with_reducible refine kk.mono ?_; rintro e5 w5 ⟨rfl, B5⟩))
      obtain ⟨hS, s⟩ := HG.out
      obtain ⟨⟨f0, f1, f2, f4, f5, f6⟩, ⟨dd3, dd7, dd8, dd9⟩⟩ := HF.out
      refine hK.out (x99, x100, x101, x102, x103, x104, x105, x106, .bool true, x6) _ ⟨?sg, ⟨(fun h => f0 (upd_ne h (by decide))), (fun h => f1 (upd_ne h (by decide))), (fun h => f2 (upd_ne h (by decide))), (fun h => f4 (upd_ne h (by decide))), (fun h => f5 (upd_ne h (by decide))), (fun h => f6 (upd_ne h (by decide)))⟩, 3, by decide, ⟨((upd_no (by decide)).trans (dd3.trans (by decide))), ((upd_no (by decide)).trans (dd7.trans (by decide))), (by simp [upd]), ((upd_no (by decide)).trans (dd9.trans (by decide)))⟩, ⟨(fun h => absurd h (by decide)), (fun h => absurd h (by decide)), (fun h => absurd h (by decide)), (fun _ => ?new), (fun h => absurd h (by decide))⟩⟩
      case sg => exact (s.below B5).box
      case new =>
        exact ⟨rfl, s.below B5⟩
    · rintro d ⟨x99, x100, x101, x102, x103, x104, x105, x106, x107, x6⟩ w' hI hd hdp KQ hK
      dsimp only at hI
      obtain ⟨hS, ⟨f0, f1, f2, f4, f5, f6⟩, j, hj, ⟨dd3, dd7, dd8, dd9⟩, ⟨p0, p1, p2, p3, p4⟩⟩ := hI
      obtain rfl := ph_eq (k := 2) dd9 hd dd8 (hdp 8 (by decide +kernel))
      have s := p3 rfl
      clear p0 p1 p2 p3 p4 hj
      obtain ⟨ea, s⟩ := s
      subst ea
      have HG : Hid _ := And.intro hS s
      clear hS s
      have HF : Hid _ := And.intro (And.intro f0 (And.intro f1 (And.intro f2 (And.intro f4 (And.intro f5 f6))))) (And.intro dd3 (And.intro dd7 (And.intro dd8 dd9)))
      clear f0 f1 f2 f4 f5 f6 dd3 dd7 dd8 dd9 hdp hd
      refine Opn.mk ?_
      dsimp only
      go_simp
      obtain ⟨hS, s⟩ := HG.out
      obtain ⟨⟨f0, f1, f2, f4, f5, f6⟩, ⟨dd3, dd7, dd8, dd9⟩⟩ := HF.out
      refine hK.out (x99, x100, x101, x102, x103, x104, x105, x106, .bool true, .bool true) _ ⟨?sg, ⟨(fun h => f0 (upd_ne h (by decide))), (fun h => f1 (upd_ne h (by decide))), (fun h => f2 (upd_ne h (by decide))), (fun h => f4 (upd_ne h (by decide))), (fun h => f5 (upd_ne h (by decide))), (fun h => f6 (upd_ne h (by decide)))⟩, 4, by decide, ⟨((upd_no (by decide)).trans (dd3.trans (by decide))), ((upd_no (by decide)).trans (dd7.trans (by decide))), ((upd_no (by decide)).trans (dd8.trans (by decide))), (by simp [upd])⟩, ⟨(fun h => absurd h (by decide)), (fun h => absurd h (by decide)), (fun h => absurd h (by decide)), (fun h => absurd h (by decide)), (fun _ => ?new)⟩⟩
      case sg => exact hS
      case new =>
        exact ⟨rfl, s⟩
  case he99 =>
    rintro d ⟨x99, x100, x101, x102, x103, x104, x105, x106, x107, x6⟩ w' hall hI
    dsimp only at hI
    obtain ⟨hS, ⟨f0, f1, f2, f4, f5, f6⟩, j, hj, ⟨dd3, dd7, dd8, dd9⟩, ⟨p0, p1, p2, p3, p4⟩⟩ := hI
    obtain rfl := ph_end (k := 3) hj dd9 (hall 9 (by decide))
    have s := p4 rfl
    clear hall hj f0 f1 f2 f4 f5 f6 dd3 dd7 dd8 dd9 p0 p1 p2 p3 p4
    obtain ⟨ea, s⟩ := s
    subst ea
    have HG : Hid _ := s
    clear hS s
    dsimp only
    go_wp2_with fail
    go_ret
    exact ⟨rfl, ⟨_, _, Pq.pp (t0 := tr) HG.out HNN.out.2 HR.out (Nat.le_succ _) HB.out.1 HB.out.2.1 HM.out⟩⟩
set_option maxRecDepth 100000 in
set_option maxHeartbeats 3200000 in
theorem both_9 (w0 w : World) (dp rp m : Nat) (sd : St) (tr : RSt) (K n : Int) (A B : Str) (ua : Option Addr) (uc : Nat) (bs : Str) (h : Pp w0 w dp rp m sd tr) (hm : m < 150) (ok : OpM.Ok w0 ⟨K, A, B, .slice ua bs.length uc, bs, n⟩) (hk : absN K % 12 = 9) :
    Calls Try.prog 13 #[.pointer (some ⟨dp, 0, none⟩), .pointer (some ⟨rp, 0, none⟩), .agg #[.int .i64 K, .string ⟨A.toArray⟩, .string ⟨B.toArray⟩, .slice ua bs.length uc, .int .i64 n]] w fun e w' => e = .returned (.bool true) ∧ Bth w0 w' dp rp m := by
  have mixed : Try.prog.follows .mixedOrders = true := by kernel_rfl
  obtain ⟨W, hW⟩ : ∃ W, W = w.alloc (.cells #[.int .i64 K, .string ⟨A.toArray⟩, .string ⟨B.toArray⟩, .slice ua bs.length uc, .int .i64 n] 31) := ⟨_, rfl⟩
  have hq := h.box hW
  have kAb := abs_any W K ok.k1 ok.k2
  have hab : (absN K : Int) % 12 = 9 := by omega
  have HR : Hid (Rel sd tr) := h.rel
  have HM : Hid (NmS sd) := h.nm
  have HB : Hid (tr.n ≤ m ∧ tr.part ≤ 9223372036854775807 ∧ m < 150) := ⟨h.n, h.part, hm⟩
  have HW : Hid (W = w.alloc (.cells #[.int .i64 K, .string ⟨A.toArray⟩, .string ⟨B.toArray⟩, .slice ua bs.length uc, .int .i64 n] 31)) := hW
  have hA : A.length ≤ maxLen := by have := ok.a; simp only at this; unfold maxLen; omega
  have hBl : B.length ≤ maxLen := by have := ok.b; simp only at this; unfold maxLen; omega
  have HOK : Hid (OpM.Ok w0 ⟨K, A, B, .slice ua bs.length uc, bs, n⟩) := ok
  have hN : m * 2097152 + bs.length + bs.length ≤ 140737488355328 := by have := ok.rl; simp only at this; omega
  have hN2 : m * 2097152 + bs.length + bs.length ≤ (m + 1) * 2097152 := by have := ok.rl; simp only at this; omega
  have hop : sd.ops < 1000000 := by have := h.n; have := h.rel.n; omega
  have hopt : tr.n < 1000000 := by have := h.n; omega
  have hpt := h.part
  have hS := h.rel.sp.srt
  have HQ : Hid (Pq w0 W dp rp (m * 2097152) sd tr w.heap.size 31 #[.int .i64 K, .string ⟨A.toArray⟩, .string ⟨B.toArray⟩, .slice ua bs.length uc, .int .i64 n]) := hq
  obtain ⟨bx, hbx⟩ : ∃ b, b = w.heap.size := ⟨_, rfl⟩
  rw [← hbx] at HQ
  have HN : Hid (m * 2097152 + bs.length + bs.length ≤ 140737488355328 ∧ m * 2097152 + bs.length + bs.length ≤ (m + 1) * 2097152 ∧ A.length ≤ maxLen ∧ B.length ≤ maxLen ∧ sd.ops < 1000000 ∧ tr.n < 1000000 ∧ tr.part ≤ 9223372036854775807 ∧ Srt tr.fs) := ⟨hN, hN2, hA, hBl, hop, hopt, hpt, hS⟩
  have HNN : Hid (m * 2097152 ≤ 140737488355328 ∧ m * 2097152 ≤ (m + 1) * 2097152) := by apply hide; omega
  have c0 := HQ.out.box.cell 0 _ rfl
  clear hq h ok hW hm hA hBl hN hN2 hop hopt hpt hS hk
  go_enter Try.func13, Try.ntmps13
  go_wp2_with fail
  rw [← HW.out]
  go_wp2_with fail
  refine kAb.mono ?_
  rintro e wq ⟨rfl, rfl⟩
  clear kAb
  go_upto_region 20 with fail
  rw [← hbx]
  try rw [hab]
  clear hbx hab
  have kAb := abs_any wq K HOK.out.k1 HOK.out.k2
  have kAn := fun nq os => abs_any (Go.Sort.grow (wq.drewN nq) os) n HOK.out.n1 HOK.out.n2
  have c4 := HQ.out.box.cell 4 _ rfl
  go_wp2_with fail
  refine kAb.mono ?_
  rintro e wz ⟨rfl, rfl⟩
  clear kAb
  go_upto_if 116 with fail
  go_cut [11] (fun v11 wA => ∃ z : Int, v11 = .int .i64 z ∧ Hid (Pq w0 wA dp rp (m * 2097152) sd tr bx 31 #[.int .i64 K, .string ⟨A.toArray⟩, .string ⟨B.toArray⟩, .slice ua bs.length uc, .int .i64 n]))
  case first =>
    by_cases h5 : (absN K : Int) % 5 = 0
    · have h5z : ¬ (0 : Int) < (absN K : Int) % 5 := by omega
      go_wp2_with fail
      go_meet
      case rel => exact ⟨n, rfl, HQ⟩
    · have h5z : (0 : Int) < (absN K : Int) % 5 := by omega
      obtain ⟨Lv, hrb⟩ := HQ.out.rcell
      have r2 : wz.cell? ⟨rp, 2, none⟩ = some (.int .i64 (tr.n : Int)) := BxA.cell hrb 2 _ rfl
      have z2 := fun nq os => gro_cell r2 nq os
      have z4 := fun nq os => gro_cell c4 nq os
      have zA : ∀ nq os, Calls Try.prog 27 #[.int .i64 n] (Go.Sort.grow (wz.drewN nq) os) fun e w' => e = .returned (.int .i64 (absN n : Int)) ∧ ∃ q os', w' = Go.Sort.grow ((Go.Sort.grow (wz.drewN nq) os).drewN q) os' := fun nq os => (kAn nq os).mono fun _ _ ⟨he, hw⟩ => ⟨he, 0, #[], by rw [hw, grow_empty]; rfl⟩
      obtain ⟨q6, hq6⟩ : ∃ q, q = absN n % 6 := ⟨_, rfl⟩
      have hq6z : (absN n : Int) % 6 = (q6 : Int) := by omega
      have hq6t : Int.tmod (absN n : Int) 6 = (q6 : Int) := by rw [Int.tmod_eq_emod_of_nonneg (by omega)]; exact hq6z
      have hlt : tr.n + q6 < 1000000 := by have := HN.out.2.2.2.2.2.1; have := HB.out; omega
      have hw1 : wrap64 ((tr.n : Int) + (q6 : Int)) = (tr.n : Int) + (q6 : Int) := by rw [← IntWalk.i64_left, IntKind.wrap_i64]; omega
      have hw2 : IntKind.i64.wrap ((tr.n : Int) + (q6 : Int)) = (tr.n : Int) + (q6 : Int) := by rw [IntKind.wrap_i64]; omega
      have hw3 : wrap64 (q6 : Int) = (q6 : Int) := by rw [← IntWalk.i64_left, IntKind.wrap_i64]; omega
      have hw4 : IntKind.i64.wrap (q6 : Int) = (q6 : Int) := by rw [IntKind.wrap_i64]; omega
      clear kAn hrb hq6
      go_upto_region 22 with fail
      refine wp_region_quiet_grown (by assumption) (by kernel_rfl) ?_
      repeat (go_big_quiet_step (first | (go_at_call 27; with_reducible refine Calls.grown_of (zA _ _))))
      refine wpQuiet_nil ?_
      intro T hw'
      obtain ⟨⟨nq, osq⟩, hw''⟩ := hw'
      have HBT : Hid (RowKit.Below wz.heap.size wz T) := by apply hide; rw [hw'']; exact gro_below wz nq osq
      clear hw'' z2 z4 zA hw1 hw2 hw3 hw4 hq6z hq6t r2 c4 c0
      go_wp2_with fail
      go_meet
      case rel => exact ⟨_, rfl, HQ.out.below HBT.out⟩
  case rest =>
    rename World => w5
    obtain ⟨z, rfl, HQ5⟩ := hcut
    have k1 := pq_cutAt HQ5.out z n
    have d4 := HQ5.out.box.cell 4 _ rfl
    clear c0 c4 kAn
    go_wp2_with fail
    refine k1.mono ?_
    rintro e w6 ⟨rfl, q6⟩
    have HQ6 : Hid _ := q6
    obtain ⟨Lv, hrb⟩ := q6.rcell
    have x3 : w6.cell? ⟨rp, 3, none⟩ = some (.int .i64 tr.at_) := BxA.cell hrb 3 _ rfl
    have f3 := BxA.free hrb 3
    have q7 := q6.rset 3 (.int .i64 z) { tr with at_ := z } rfl rfl (fun _ => rfl)
    obtain ⟨X, hX⟩ : ∃ X, X = w6.setCell ⟨rp, 3, none⟩ (.int .i64 z) := ⟨_, rfl⟩
    have HX : Hid (X = w6.setCell ⟨rp, 3, none⟩ (.int .i64 z)) := hX
    rw [← hX] at q7
    obtain ⟨Lv7, hrb7⟩ := q7.rcell
    have y4 : X.cell? ⟨rp, 4, none⟩ = some (.int .i64 tr.part) := BxA.cell hrb7 4 _ rfl
    have g4 := BxA.free hrb7 4
    have b4 := q7.box.cell 4 _ rfl
    have HQ8 : Hid _ := q7.rset 4 (.int .i64 n) { tr with at_ := z, part := n } rfl rfl (fun _ => rfl)
    clear k1 q6 q7 hrb hrb7 hX d4
    go_upto_region 25 with fail
    rw [← HX.out]
    go_wp2_with fail
    go_ret
    exact ⟨rfl, ⟨_, _, Pq.pp (t0 := tr) HQ8.out HNN.out.2 ⟨HR.out.sp, HR.out.off, HR.out.n, .inr ⟨rfl, rfl, rfl⟩⟩ (Nat.le_succ _) HB.out.1 HOK.out.n2 HM.out⟩⟩
set_option maxRecDepth 100000 in
set_option maxHeartbeats 3200000 in
theorem both_10 (w0 w : World) (dp rp m : Nat) (sd : St) (tr : RSt) (K n : Int) (A B : Str) (ua : Option Addr) (uc : Nat) (bs : Str) (h : Pp w0 w dp rp m sd tr) (hm : m < 150) (ok : OpM.Ok w0 ⟨K, A, B, .slice ua bs.length uc, bs, n⟩) (hk : absN K % 12 = 10) :
    Calls Try.prog 13 #[.pointer (some ⟨dp, 0, none⟩), .pointer (some ⟨rp, 0, none⟩), .agg #[.int .i64 K, .string ⟨A.toArray⟩, .string ⟨B.toArray⟩, .slice ua bs.length uc, .int .i64 n]] w fun e w' => e = .returned (.bool true) ∧ Bth w0 w' dp rp m := by
  have mixed : Try.prog.follows .mixedOrders = true := by kernel_rfl
  obtain ⟨W, hW⟩ : ∃ W, W = w.alloc (.cells #[.int .i64 K, .string ⟨A.toArray⟩, .string ⟨B.toArray⟩, .slice ua bs.length uc, .int .i64 n] 31) := ⟨_, rfl⟩
  have hq := h.box hW
  have kAb := abs_any W K ok.k1 ok.k2
  have hab : (absN K : Int) % 12 = 10 := by omega
  have HR : Hid (Rel sd tr) := h.rel
  have HM : Hid (NmS sd) := h.nm
  have HB : Hid (tr.n ≤ m ∧ tr.part ≤ 9223372036854775807 ∧ m < 150) := ⟨h.n, h.part, hm⟩
  have HW : Hid (W = w.alloc (.cells #[.int .i64 K, .string ⟨A.toArray⟩, .string ⟨B.toArray⟩, .slice ua bs.length uc, .int .i64 n] 31)) := hW
  have hA : A.length ≤ maxLen := by have := ok.a; simp only at this; unfold maxLen; omega
  have hBl : B.length ≤ maxLen := by have := ok.b; simp only at this; unfold maxLen; omega
  have HOK : Hid (OpM.Ok w0 ⟨K, A, B, .slice ua bs.length uc, bs, n⟩) := ok
  have hN : m * 2097152 + bs.length + bs.length ≤ 140737488355328 := by have := ok.rl; simp only at this; omega
  have hN2 : m * 2097152 + bs.length + bs.length ≤ (m + 1) * 2097152 := by have := ok.rl; simp only at this; omega
  have hop : sd.ops < 1000000 := by have := h.n; have := h.rel.n; omega
  have hopt : tr.n < 1000000 := by have := h.n; omega
  have hpt := h.part
  have hS := h.rel.sp.srt
  have HQ : Hid (Pq w0 W dp rp (m * 2097152) sd tr w.heap.size 31 #[.int .i64 K, .string ⟨A.toArray⟩, .string ⟨B.toArray⟩, .slice ua bs.length uc, .int .i64 n]) := hq
  obtain ⟨bx, hbx⟩ : ∃ b, b = w.heap.size := ⟨_, rfl⟩
  rw [← hbx] at HQ
  have HN : Hid (m * 2097152 + bs.length + bs.length ≤ 140737488355328 ∧ m * 2097152 + bs.length + bs.length ≤ (m + 1) * 2097152 ∧ A.length ≤ maxLen ∧ B.length ≤ maxLen ∧ sd.ops < 1000000 ∧ tr.n < 1000000 ∧ tr.part ≤ 9223372036854775807 ∧ Srt tr.fs) := ⟨hN, hN2, hA, hBl, hop, hopt, hpt, hS⟩
  have HNN : Hid (m * 2097152 ≤ 140737488355328 ∧ m * 2097152 ≤ (m + 1) * 2097152) := by apply hide; omega
  have c0 := HQ.out.box.cell 0 _ rfl
  clear hq h ok hW hm hA hBl hN hN2 hop hopt hpt hS hk
  go_enter Try.func13, Try.ntmps13
  go_wp2_with fail
  rw [← HW.out]
  go_wp2_with fail
  refine kAb.mono ?_
  rintro e wq ⟨rfl, rfl⟩
  clear kAb
  go_upto_region 27 with fail
  rw [← hbx]
  try rw [hab]
  clear hbx hab
  have kAb := abs_any wq K HOK.out.k1 HOK.out.k2
  have c4 := HQ.out.box.cell 4 _ rfl
  go_wp2_with fail
  refine kAb.mono ?_
  rintro e wz ⟨rfl, rfl⟩
  clear kAb
  by_cases h4 : (absN K : Int) % 4 = 0
  · have k1 := pq_cut HQ.out n
    go_wp2_with fail
    refine k1.mono ?_
    rintro e w5 ⟨rfl, q5⟩
    have HQ5 : Hid _ := q5
    have k2 := pq_rcut q5 n HNN.out.1 HOK.out.n2
    have d4 := q5.box.cell 4 _ rfl
    clear k1 q5 c0 c4
    go_wp2_with fail
    refine k2.mono ?_
    rintro e w6 ⟨rfl, q6⟩
    have HQ6 : Hid _ := q6
    clear k2 q6 d4
    go_wp2_with fail
    go_ret
    exact ⟨rfl, ⟨_, _, Pq.pp (t0 := tr) HQ6.out HNN.out.2 (HR.out.cutR n) (by rw [(rcut_pt tr n).2]; exact Nat.le_succ _) HB.out.1 (by rw [(rcut_pt tr n).1]; exact HB.out.2.1) (nms_cut HM.out n)⟩⟩
  · have h4z : decide ((absN K : Int) % 4 = 0) = false := decide_eq_false h4
    go_wp2_with fail
    go_ret
    exact ⟨rfl, ⟨_, _, Pq.pp (t0 := tr) HQ.out HNN.out.2 HR.out (Nat.le_succ _) HB.out.1 HB.out.2.1 HM.out⟩⟩
set_option maxRecDepth 100000 in
set_option maxHeartbeats 3200000 in
theorem both_11 (w0 w : World) (dp rp m : Nat) (sd : St) (tr : RSt) (K n : Int) (A B : Str) (ua : Option Addr) (uc : Nat) (bs : Str) (h : Pp w0 w dp rp m sd tr) (hm : m < 150) (ok : OpM.Ok w0 ⟨K, A, B, .slice ua bs.length uc, bs, n⟩) (hk : absN K % 12 = 11) :
    Calls Try.prog 13 #[.pointer (some ⟨dp, 0, none⟩), .pointer (some ⟨rp, 0, none⟩), .agg #[.int .i64 K, .string ⟨A.toArray⟩, .string ⟨B.toArray⟩, .slice ua bs.length uc, .int .i64 n]] w fun e w' => e = .returned (.bool true) ∧ Bth w0 w' dp rp m := by
  have mixed : Try.prog.follows .mixedOrders = true := by kernel_rfl
  obtain ⟨W, hW⟩ : ∃ W, W = w.alloc (.cells #[.int .i64 K, .string ⟨A.toArray⟩, .string ⟨B.toArray⟩, .slice ua bs.length uc, .int .i64 n] 31) := ⟨_, rfl⟩
  have hq := h.box hW
  have kAb := abs_any W K ok.k1 ok.k2
  have hab : (absN K : Int) % 12 = 11 := by omega
  have HR : Hid (Rel sd tr) := h.rel
  have HM : Hid (NmS sd) := h.nm
  have HB : Hid (tr.n ≤ m ∧ tr.part ≤ 9223372036854775807 ∧ m < 150) := ⟨h.n, h.part, hm⟩
  have HW : Hid (W = w.alloc (.cells #[.int .i64 K, .string ⟨A.toArray⟩, .string ⟨B.toArray⟩, .slice ua bs.length uc, .int .i64 n] 31)) := hW
  have hA : A.length ≤ maxLen := by have := ok.a; simp only at this; unfold maxLen; omega
  have hBl : B.length ≤ maxLen := by have := ok.b; simp only at this; unfold maxLen; omega
  have HOK : Hid (OpM.Ok w0 ⟨K, A, B, .slice ua bs.length uc, bs, n⟩) := ok
  have hN : m * 2097152 + bs.length + bs.length ≤ 140737488355328 := by have := ok.rl; simp only at this; omega
  have hN2 : m * 2097152 + bs.length + bs.length ≤ (m + 1) * 2097152 := by have := ok.rl; simp only at this; omega
  have hop : sd.ops < 1000000 := by have := h.n; have := h.rel.n; omega
  have hopt : tr.n < 1000000 := by have := h.n; omega
  have hpt := h.part
  have hS := h.rel.sp.srt
  have HQ : Hid (Pq w0 W dp rp (m * 2097152) sd tr w.heap.size 31 #[.int .i64 K, .string ⟨A.toArray⟩, .string ⟨B.toArray⟩, .slice ua bs.length uc, .int .i64 n]) := hq
  obtain ⟨bx, hbx⟩ : ∃ b, b = w.heap.size := ⟨_, rfl⟩
  rw [← hbx] at HQ
  have HN : Hid (m * 2097152 + bs.length + bs.length ≤ 140737488355328 ∧ m * 2097152 + bs.length + bs.length ≤ (m + 1) * 2097152 ∧ A.length ≤ maxLen ∧ B.length ≤ maxLen ∧ sd.ops < 1000000 ∧ tr.n < 1000000 ∧ tr.part ≤ 9223372036854775807 ∧ Srt tr.fs) := ⟨hN, hN2, hA, hBl, hop, hopt, hpt, hS⟩
  have HNN : Hid (m * 2097152 ≤ 140737488355328 ∧ m * 2097152 ≤ (m + 1) * 2097152) := by apply hide; omega
  have c0 := HQ.out.box.cell 0 _ rfl
  clear hq h ok hW hm hA hBl hN hN2 hop hopt hpt hS hk
  go_enter Try.func13, Try.ntmps13
  go_wp2_with fail
  rw [← HW.out]
  go_wp2_with fail
  refine kAb.mono ?_
  rintro e wq ⟨rfl, rfl⟩
  clear kAb
  go_upto_region 31 with fail
  rw [← hbx]
  try rw [hab]
  clear hbx hab
  have k1 := pq_on HQ.out
  go_wp2_with fail
  refine k1.mono ?_
  rintro e w6 ⟨rfl, q6⟩
  obtain ⟨Lv, hrb⟩ := q6.rcell
  have x3 : w6.cell? ⟨rp, 1, none⟩ = some (.bool tr.off) := BxA.cell hrb 1 _ rfl
  have f3 := BxA.free hrb 1
  have HQ7 : Hid _ := q6.rset 1 (.bool false) { tr with off := false } rfl rfl (fun _ => rfl)
  clear k1 q6 hrb c0
  go_wp2_with fail
  go_ret
  exact ⟨rfl, ⟨_, _, Pq.pp (t0 := tr) HQ7.out HNN.out.2 ⟨HR.out.sp, rfl, HR.out.n, HR.out.cut⟩ (Nat.le_succ _) HB.out.1 HB.out.2.1 HM.out⟩⟩
end Go.Proofs.Ytdcoeebpknipdaa
