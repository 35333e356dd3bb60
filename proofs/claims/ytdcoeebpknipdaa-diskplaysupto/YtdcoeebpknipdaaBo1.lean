/- A call on both: Append, Sync, Rename, Remove. -/
import Derived.Test.YtdcoeebpknipdaaBo0
namespace Go.Proofs.Ytdcoeebpknipdaa
open Go.RowKit Go.Maps Go.Sort
set_option linter.unusedVariables false

set_option maxRecDepth 100000 in
set_option maxHeartbeats 3200000 in
theorem both_0 (w0 w : World) (dp rp m : Nat) (sd : St) (tr : RSt) (K n : Int) (A B : Str) (ua : Option Addr) (uc : Nat) (bs : Str) (h : Pp w0 w dp rp m sd tr) (hm : m < 150) (ok : OpM.Ok w0 ⟨K, A, B, .slice ua bs.length uc, bs, n⟩) (hk : absN K % 12 = 0) :
    Calls Try.prog 13 #[.pointer (some ⟨dp, 0, none⟩), .pointer (some ⟨rp, 0, none⟩), .agg #[.int .i64 K, .string ⟨A.toArray⟩, .string ⟨B.toArray⟩, .slice ua bs.length uc, .int .i64 n]] w fun e w' => e = .returned (.bool true) ∧ Bth w0 w' dp rp m := by
  have mixed : Try.prog.follows .mixedOrders = true := by kernel_rfl
  obtain ⟨W, hW⟩ : ∃ W, W = w.alloc (.cells #[.int .i64 K, .string ⟨A.toArray⟩, .string ⟨B.toArray⟩, .slice ua bs.length uc, .int .i64 n] 31) := ⟨_, rfl⟩
  have hq := h.box hW
  have kAb := abs_any W K ok.k1 ok.k2
  have hab : (absN K : Int) % 12 = 0 := by omega
  have HR : Hid (Rel sd tr) := h.rel
  have HM : Hid (NmS sd) := h.nm
  have HB : Hid (tr.n ≤ m ∧ tr.part ≤ 9223372036854775807 ∧ m < 150) := ⟨h.n, h.part, hm⟩
  have HW : Hid (W = w.alloc (.cells #[.int .i64 K, .string ⟨A.toArray⟩, .string ⟨B.toArray⟩, .slice ua bs.length uc, .int .i64 n] 31)) := hW
  have hA : A.length ≤ maxLen := by have := ok.a; simp only at this; unfold maxLen; omega
  have hBl : B.length ≤ maxLen := by have := ok.b; simp only at this; unfold maxLen; omega
  have HOK : Hid (OpM.Ok w0 ⟨K, A, B, .slice ua bs.length uc, bs, n⟩) := ok
  have hN : m * 2097152 + bs.length + bs.length ≤ 140737488355328 := by have := ok.rl; simp only at this; omega
  have hN2 : m * 2097152 + bs.length + bs.length ≤ (m + 1) * 2097152 := by have := ok.rl; simp only at this; omega
  have hop : sd.ops < 1000000 := by have := h.n; have := h.rel.n; omega
  have hopt : tr.n < 1000000 := by have := h.n; omega
  have hpt := h.part
  have hS := h.rel.sp.srt
  have HQ : Hid (Pq w0 W dp rp (m * 2097152) sd tr w.heap.size 31 #[.int .i64 K, .string ⟨A.toArray⟩, .string ⟨B.toArray⟩, .slice ua bs.length uc, .int .i64 n]) := hq
  obtain ⟨bx, hbx⟩ : ∃ b, b = w.heap.size := ⟨_, rfl⟩
  rw [← hbx] at HQ
  have HN : Hid (m * 2097152 + bs.length + bs.length ≤ 140737488355328 ∧ m * 2097152 + bs.length + bs.length ≤ (m + 1) * 2097152 ∧ A.length ≤ maxLen ∧ B.length ≤ maxLen ∧ sd.ops < 1000000 ∧ tr.n < 1000000 ∧ tr.part ≤ 9223372036854775807 ∧ Srt tr.fs) := ⟨hN, hN2, hA, hBl, hop, hopt, hpt, hS⟩
  have HNN : Hid (m * 2097152 ≤ 140737488355328 ∧ m * 2097152 ≤ (m + 1) * 2097152) := by apply hide; omega
  have c0 := HQ.out.box.cell 0 _ rfl
  clear hq h ok hW hm hA hBl hN hN2 hop hopt hpt hS hk
  go_enter Try.func13, Try.ntmps13
  go_wp2_with fail
  rw [← HW.out]
  go_wp2_with fail
  refine kAb.mono ?_
  rintro e wq ⟨rfl, rfl⟩
  clear kAb
  go_upto_region 5 with fail
  rw [← hbx]
  try rw [hab]
  clear hbx hab
  obtain ⟨c, hc⟩ : ∃ c, c = (sd.append A bs).1 := ⟨_, rfl⟩
  have HC1 : Hid ((sd.append A bs).1 = c) := hc.symm
  have HC2 : Hid ((rapp tr A bs).1 = c) := by apply hide; rw [hc]; exact (HR.out.append A bs).1.symm
  have hSig0 : BxA wq.drew bx 31 #[.int .i64 K, .string ⟨A.toArray⟩, .string ⟨B.toArray⟩, .slice ua bs.length uc, .int .i64 n] := HQ.out.box
  have hS00 : Pq w0 wq.drew dp rp (m * 2097152) sd tr bx 31 #[.int .i64 K, .string ⟨A.toArray⟩, .string ⟨B.toArray⟩, .slice ua bs.length uc, .int .i64 n] := pq_drew HQ.out
  clear hc c0
  refine wp_region_invF (β := Value × Value × Value × Value × Value × Value × Value × Value × Value × Value × Value × Value × Value × Value) (fun a0 xq => ((((((((((((((a0.put (some 20) (xq.1)).put (some 21) (xq.2.1)).put (some 22) (xq.2.2.1)).put (some 23) (xq.2.2.2.1)).put (some 24) (xq.2.2.2.2.1)).put (some 25) (xq.2.2.2.2.2.1)).put (some 26) (xq.2.2.2.2.2.2.1)).put (some 27) (xq.2.2.2.2.2.2.2.1)).put (some 28) (xq.2.2.2.2.2.2.2.2.1)).put (some 29) (xq.2.2.2.2.2.2.2.2.2.1)).put (some 30) (xq.2.2.2.2.2.2.2.2.2.2.1)).put (some 31) (xq.2.2.2.2.2.2.2.2.2.2.2.1)).put (some 32) (xq.2.2.2.2.2.2.2.2.2.2.2.2.1)).put (some 6) (xq.2.2.2.2.2.2.2.2.2.2.2.2.2))) ?fr20 (fun xq d w' => (BxA w' bx 31 #[.int .i64 K, .string ⟨A.toArray⟩, .string ⟨B.toArray⟩, .slice ua bs.length uc, .int .i64 n]) ∧ ((d 0 = true → (xq.1) = .pointer (some ⟨dp, 0, none⟩)) ∧ (d 1 = true → (xq.2.1) = .pointer (some ⟨bx, 1, none⟩)) ∧ (d 2 = true → (xq.2.2.1) = .string ⟨A.toArray⟩) ∧ (d 3 = true → (xq.2.2.2.1) = .pointer (some ⟨bx, 3, none⟩)) ∧ (d 4 = true → (xq.2.2.2.2.1) = .slice ua bs.length uc) ∧ (d 6 = true → (xq.2.2.2.2.2.2.1) = .pointer (some ⟨rp, 0, none⟩)) ∧ (d 7 = true → (xq.2.2.2.2.2.2.2.1) = .pointer (some ⟨bx, 1, none⟩)) ∧ (d 8 = true → (xq.2.2.2.2.2.2.2.2.1) = .string ⟨A.toArray⟩) ∧ (d 9 = true → (xq.2.2.2.2.2.2.2.2.2.1) = .pointer (some ⟨bx, 3, none⟩)) ∧ (d 10 = true → (xq.2.2.2.2.2.2.2.2.2.2.1) = .slice ua bs.length uc)) ∧ ∃ j : Nat, j ≤ 4 ∧ (d 5 = decide (0 < j) ∧ d 11 = decide (1 < j) ∧ d 12 = decide (2 < j) ∧ d 13 = decide (3 < j)) ∧ ((j = 0 → Pq w0 w' dp rp (m * 2097152) (sd) (tr) bx 31 #[.int .i64 K, .string ⟨A.toArray⟩, .string ⟨B.toArray⟩, .slice ua bs.length uc, .int .i64 n]) ∧ (j = 1 → (xq.2.2.2.2.2.1) = .int .i64 (c : Int) ∧ Pq w0 w' dp rp (m * 2097152 + bs.length) ((sd.append A bs).2) (tr) bx 31 #[.int .i64 K, .string ⟨A.toArray⟩, .string ⟨B.toArray⟩, .slice ua bs.length uc, .int .i64 n]) ∧ (j = 2 → (xq.2.2.2.2.2.1) = .int .i64 (c : Int) ∧ (xq.2.2.2.2.2.2.2.2.2.2.2.1) = .int .i64 (c : Int) ∧ Pq w0 w' dp rp (m * 2097152 + bs.length + bs.length) ((sd.append A bs).2) ((rapp tr A bs).2) bx 31 #[.int .i64 K, .string ⟨A.toArray⟩, .string ⟨B.toArray⟩, .slice ua bs.length uc, .int .i64 n]) ∧ (j = 3 → (xq.2.2.2.2.2.2.2.2.2.2.2.2.1) = .bool true ∧ Pq w0 w' dp rp (m * 2097152 + bs.length + bs.length) ((sd.append A bs).2) ((rapp tr A bs).2) bx 31 #[.int .i64 K, .string ⟨A.toArray⟩, .string ⟨B.toArray⟩, .slice ua bs.length uc, .int .i64 n]) ∧ (j = 4 → (xq.2.2.2.2.2.2.2.2.2.2.2.2.2) = .bool true ∧ Pq w0 w' dp rp (m * 2097152 + bs.length + bs.length) ((sd.append A bs).2) ((rapp tr A bs).2) bx 31 #[.int .i64 K, .string ⟨A.toArray⟩, .string ⟨B.toArray⟩, .slice ua bs.length uc, .int .i64 n]))) ?lay20 mixed (by kernel_rfl) ?h020 ?hs20 ?he20
  case lay20 =>
    intro xq
    simp only [Act.put, List.setIfInBounds_toArray, List.set_cons_zero, List.set_cons_succ]
    rfl
  case h020 =>
    refine ⟨(undef, undef, undef, undef, undef, undef, undef, undef, undef, undef, undef, undef, undef, .bool false), rfl, ?sig20, ⟨(fun h => by cases h), (fun h => by cases h), (fun h => by cases h), (fun h => by cases h), (fun h => by cases h), (fun h => by cases h), (fun h => by cases h), (fun h => by cases h), (fun h => by cases h), (fun h => by cases h)⟩, 0, Nat.zero_le _, ⟨rfl, rfl, rfl, rfl⟩, ?S020, (fun h => by cases h), (fun h => by cases h), (fun h => by cases h), (fun h => by cases h)⟩
    case sig20 => exact hSig0
    case S020 => exact fun _ => hS00
  case hs20 =>
    refine ⟨?_, ?_, ?_, ?_, ?_, ?_, ?_, ?_, ?_, ?_, ?_, ?_, ?_, ?_, trivial⟩
    · rintro d ⟨x20, x21, x22, x23, x24, x25, x26, x27, x28, x29, x30, x31, x32, x6⟩ w' hI hd hdp KQ hK
      dsimp only at hI
      obtain ⟨hS, ⟨f0, f1, f2, f3, f4, f6, f7, f8, f9, f10⟩, j, hj, ⟨dd5, dd11, dd12, dd13⟩, ⟨p0, p1, p2, p3, p4⟩⟩ := hI
      have HF : Hid _ := And.intro hS (And.intro (And.intro f0 (And.intro f1 (And.intro f2 (And.intro f3 (And.intro f4 (And.intro f6 (And.intro f7 (And.intro f8 (And.intro f9 f10))))))))) (And.intro hj (And.intro (And.intro dd5 (And.intro dd11 (And.intro dd12 dd13))) (And.intro p0 (And.intro p1 (And.intro p2 (And.intro p3 p4)))))))
      clear hS f0 f1 f2 f3 f4 f6 f7 f8 f9 f10 hj dd5 dd11 dd12 dd13 p0 p1 p2 p3 p4 hdp hd
      refine Opn.mk ?_
      dsimp only
      go_simp
      obtain ⟨hS, ⟨f0, f1, f2, f3, f4, f6, f7, f8, f9, f10⟩, hj, ⟨dd5, dd11, dd12, dd13⟩, ⟨p0, p1, p2, p3, p4⟩⟩ := HF.out
      exact hK.out (.pointer (some ⟨dp, 0, none⟩), x21, x22, x23, x24, x25, x26, x27, x28, x29, x30, x31, x32, x6) _ ⟨hS, ⟨(fun _ => rfl), (fun h => f1 (upd_ne h (by decide))), (fun h => f2 (upd_ne h (by decide))), (fun h => f3 (upd_ne h (by decide))), (fun h => f4 (upd_ne h (by decide))), (fun h => f6 (upd_ne h (by decide))), (fun h => f7 (upd_ne h (by decide))), (fun h => f8 (upd_ne h (by decide))), (fun h => f9 (upd_ne h (by decide))), (fun h => f10 (upd_ne h (by decide)))⟩, j, hj, ⟨((upd_no (by decide)).trans dd5), ((upd_no (by decide)).trans dd11), ((upd_no (by decide)).trans dd12), ((upd_no (by decide)).trans dd13)⟩, ⟨p0, p1, p2, p3, p4⟩⟩
    · rintro d ⟨x20, x21, x22, x23, x24, x25, x26, x27, x28, x29, x30, x31, x32, x6⟩ w' hI hd hdp KQ hK
      dsimp only at hI
      obtain ⟨hS, ⟨f0, f1, f2, f3, f4, f6, f7, f8, f9, f10⟩, j, hj, ⟨dd5, dd11, dd12, dd13⟩, ⟨p0, p1, p2, p3, p4⟩⟩ := hI
      have HF : Hid _ := And.intro hS (And.intro (And.intro f0 (And.intro f1 (And.intro f2 (And.intro f3 (And.intro f4 (And.intro f6 (And.intro f7 (And.intro f8 (And.intro f9 f10))))))))) (And.intro hj (And.intro (And.intro dd5 (And.intro dd11 (And.intro dd12 dd13))) (And.intro p0 (And.intro p1 (And.intro p2 (And.intro p3 p4)))))))
      clear hS f0 f1 f2 f3 f4 f6 f7 f8 f9 f10 hj dd5 dd11 dd12 dd13 p0 p1 p2 p3 p4 hdp hd
      refine Opn.mk ?_
      dsimp only
      go_simp
      obtain ⟨hS, ⟨f0, f1, f2, f3, f4, f6, f7, f8, f9, f10⟩, hj, ⟨dd5, dd11, dd12, dd13⟩, ⟨p0, p1, p2, p3, p4⟩⟩ := HF.out
      exact hK.out (x20, .pointer (some ⟨bx, 1, none⟩), x22, x23, x24, x25, x26, x27, x28, x29, x30, x31, x32, x6) _ ⟨hS, ⟨(fun h => f0 (upd_ne h (by decide))), (fun _ => rfl), (fun h => f2 (upd_ne h (by decide))), (fun h => f3 (upd_ne h (by decide))), (fun h => f4 (upd_ne h (by decide))), (fun h => f6 (upd_ne h (by decide))), (fun h => f7 (upd_ne h (by decide))), (fun h => f8 (upd_ne h (by decide))), (fun h => f9 (upd_ne h (by decide))), (fun h => f10 (upd_ne h (by decide)))⟩, j, hj, ⟨((upd_no (by decide)).trans dd5), ((upd_no (by decide)).trans dd11), ((upd_no (by decide)).trans dd12), ((upd_no (by decide)).trans dd13)⟩, ⟨p0, p1, p2, p3, p4⟩⟩
    · rintro d ⟨x20, x21, x22, x23, x24, x25, x26, x27, x28, x29, x30, x31, x32, x6⟩ w' hI hd hdp KQ hK
      dsimp only at hI
      obtain ⟨hS, ⟨f0, f1, f2, f3, f4, f6, f7, f8, f9, f10⟩, j, hj, ⟨dd5, dd11, dd12, dd13⟩, ⟨p0, p1, p2, p3, p4⟩⟩ := hI
      obtain rfl := f1 (hdp 1 (by decide +kernel))
      have cc : w'.cell? ⟨bx, 1, none⟩ = some (.string ⟨A.toArray⟩) := BxA.cell hS 1 _ rfl
      have HF : Hid _ := And.intro hS (And.intro (And.intro f0 (And.intro f1 (And.intro f2 (And.intro f3 (And.intro f4 (And.intro f6 (And.intro f7 (And.intro f8 (And.intro f9 f10))))))))) (And.intro hj (And.intro (And.intro dd5 (And.intro dd11 (And.intro dd12 dd13))) (And.intro p0 (And.intro p1 (And.intro p2 (And.intro p3 p4)))))))
      clear hS f0 f1 f2 f3 f4 f6 f7 f8 f9 f10 hj dd5 dd11 dd12 dd13 p0 p1 p2 p3 p4 hdp hd
      refine Opn.mk ?_
      dsimp only
      go_simp
      obtain ⟨hS, ⟨f0, f1, f2, f3, f4, f6, f7, f8, f9, f10⟩, hj, ⟨dd5, dd11, dd12, dd13⟩, ⟨p0, p1, p2, p3, p4⟩⟩ := HF.out
      exact hK.out (x20, .pointer (some ⟨bx, 1, none⟩), .string ⟨A.toArray⟩, x23, x24, x25, x26, x27, x28, x29, x30, x31, x32, x6) _ ⟨hS, ⟨(fun h => f0 (upd_ne h (by decide))), (fun _ => rfl), (fun _ => rfl), (fun h => f3 (upd_ne h (by decide))), (fun h => f4 (upd_ne h (by decide))), (fun h => f6 (upd_ne h (by decide))), (fun h => f7 (upd_ne h (by decide))), (fun h => f8 (upd_ne h (by decide))), (fun h => f9 (upd_ne h (by decide))), (fun h => f10 (upd_ne h (by decide)))⟩, j, hj, ⟨((upd_no (by decide)).trans dd5), ((upd_no (by decide)).trans dd11), ((upd_no (by decide)).trans dd12), ((upd_no (by decide)).trans dd13)⟩, ⟨p0, p1, p2, p3, p4⟩⟩
    · rintro d ⟨x20, x21, x22, x23, x24, x25, x26, x27, x28, x29, x30, x31, x32, x6⟩ w' hI hd hdp KQ hK
      dsimp only at hI
      obtain ⟨hS, ⟨f0, f1, f2, f3, f4, f6, f7, f8, f9, f10⟩, j, hj, ⟨dd5, dd11, dd12, dd13⟩, ⟨p0, p1, p2, p3, p4⟩⟩ := hI
      have HF : Hid _ := And.intro hS (And.intro (And.intro f0 (And.intro f1 (And.intro f2 (And.intro f3 (And.intro f4 (And.intro f6 (And.intro f7 (And.intro f8 (And.intro f9 f10))))))))) (And.intro hj (And.intro (And.intro dd5 (And.intro dd11 (And.intro dd12 dd13))) (And.intro p0 (And.intro p1 (And.intro p2 (And.intro p3 p4)))))))
      clear hS f0 f1 f2 f3 f4 f6 f7 f8 f9 f10 hj dd5 dd11 dd12 dd13 p0 p1 p2 p3 p4 hdp hd
      refine Opn.mk ?_
      dsimp only
      go_simp
      obtain ⟨hS, ⟨f0, f1, f2, f3, f4, f6, f7, f8, f9, f10⟩, hj, ⟨dd5, dd11, dd12, dd13⟩, ⟨p0, p1, p2, p3, p4⟩⟩ := HF.out
      exact hK.out (x20, x21, x22, .pointer (some ⟨bx, 3, none⟩), x24, x25, x26, x27, x28, x29, x30, x31, x32, x6) _ ⟨hS, ⟨(fun h => f0 (upd_ne h (by decide))), (fun h => f1 (upd_ne h (by decide))), (fun h => f2 (upd_ne h (by decide))), (fun _ => rfl), (fun h => f4 (upd_ne h (by decide))), (fun h => f6 (upd_ne h (by decide))), (fun h => f7 (upd_ne h (by decide))), (fun h => f8 (upd_ne h (by decide))), (fun h => f9 (upd_ne h (by decide))), (fun h => f10 (upd_ne h (by decide)))⟩, j, hj, ⟨((upd_no (by decide)).trans dd5), ((upd_no (by decide)).trans dd11), ((upd_no (by decide)).trans dd12), ((upd_no (by decide)).trans dd13)⟩, ⟨p0, p1, p2, p3, p4⟩⟩
    · rintro d ⟨x20, x21, x22, x23, x24, x25, x26, x27, x28, x29, x30, x31, x32, x6⟩ w' hI hd hdp KQ hK
      dsimp only at hI
      obtain ⟨hS, ⟨f0, f1, f2, f3, f4, f6, f7, f8, f9, f10⟩, j, hj, ⟨dd5, dd11, dd12, dd13⟩, ⟨p0, p1, p2, p3, p4⟩⟩ := hI
      obtain rfl := f3 (hdp 3 (by decide +kernel))
      have cc : w'.cell? ⟨bx, 3, none⟩ = some (.slice ua bs.length uc) := BxA.cell hS 3 _ rfl
      have HF : Hid _ := And.intro hS (And.intro (And.intro f0 (And.intro f1 (And.intro f2 (And.intro f3 (And.intro f4 (And.intro f6 (And.intro f7 (And.intro f8 (And.intro f9 f10))))))))) (And.intro hj (And.intro (And.intro dd5 (And.intro dd11 (And.intro dd12 dd13))) (And.intro p0 (And.intro p1 (And.intro p2 (And.intro p3 p4)))))))
      clear hS f0 f1 f2 f3 f4 f6 f7 f8 f9 f10 hj dd5 dd11 dd12 dd13 p0 p1 p2 p3 p4 hdp hd
      refine Opn.mk ?_
      dsimp only
      go_simp
      obtain ⟨hS, ⟨f0, f1, f2, f3, f4, f6, f7, f8, f9, f10⟩, hj, ⟨dd5, dd11, dd12, dd13⟩, ⟨p0, p1, p2, p3, p4⟩⟩ := HF.out
      exact hK.out (x20, x21, x22, .pointer (some ⟨bx, 3, none⟩), .slice ua bs.length uc, x25, x26, x27, x28, x29, x30, x31, x32, x6) _ ⟨hS, ⟨(fun h => f0 (upd_ne h (by decide))), (fun h => f1 (upd_ne h (by decide))), (fun h => f2 (upd_ne h (by decide))), (fun _ => rfl), (fun _ => rfl), (fun h => f6 (upd_ne h (by decide))), (fun h => f7 (upd_ne h (by decide))), (fun h => f8 (upd_ne h (by decide))), (fun h => f9 (upd_ne h (by decide))), (fun h => f10 (upd_ne h (by decide)))⟩, j, hj, ⟨((upd_no (by decide)).trans dd5), ((upd_no (by decide)).trans dd11), ((upd_no (by decide)).trans dd12), ((upd_no (by decide)).trans dd13)⟩, ⟨p0, p1, p2, p3, p4⟩⟩
    · rintro d ⟨x20, x21, x22, x23, x24, x25, x26, x27, x28, x29, x30, x31, x32, x6⟩ w' hI hd hdp KQ hK
      dsimp only at hI
      obtain ⟨hS, ⟨f0, f1, f2, f3, f4, f6, f7, f8, f9, f10⟩, j, hj, ⟨dd5, dd11, dd12, dd13⟩, ⟨p0, p1, p2, p3, p4⟩⟩ := hI
      obtain rfl := f0 (hdp 0 (by decide +kernel))
      obtain rfl := f2 (hdp 2 (by decide +kernel))
      obtain rfl := f4 (hdp 4 (by decide +kernel))
      obtain rfl := ph_zero dd5 hd
      have s := p0 rfl
      clear p0 p1 p2 p3 p4 hj
      have kk := pq_append s A (.slice ua bs.length uc) bs HN.out.2.2.1 HOK.out.r (Nat.le_trans (Nat.le_add_right _ _) HN.out.1) HN.out.2.2.2.2.1
      rw [HC1.out] at kk
      have HG : Hid _ := And.intro hS s
      clear hS s
      have HF : Hid _ := And.intro (And.intro f0 (And.intro f1 (And.intro f2 (And.intro f3 (And.intro f4 (And.intro f6 (And.intro f7 (And.intro f8 (And.intro f9 f10))))))))) (And.intro dd5 (And.intro dd11 (And.intro dd12 dd13)))
      clear f0 f1 f2 f3 f4 f6 f7 f8 f9 f10 dd5 dd11 dd12 dd13 hdp hd
      refine Opn.mk ?_
      dsimp only
      go_simp
      go_wp2_with (first | (go_at_call 23; with_reducible refine kk.mono ?_; rintro e5 w5 ⟨rfl, G5⟩))
      obtain ⟨hS, s⟩ := HG.out
      obtain ⟨⟨f0, f1, f2, f3, f4, f6, f7, f8, f9, f10⟩, ⟨dd5, dd11, dd12, dd13⟩⟩ := HF.out
      refine hK.out (.pointer (some ⟨dp, 0, none⟩), x21, .string ⟨A.toArray⟩, x23, .slice ua bs.length uc, .int .i64 (c : Int), x26, x27, x28, x29, x30, x31, x32, x6) _ ⟨?sg, ⟨(fun _ => rfl), (fun h => f1 (upd_ne h (by decide))), (fun _ => rfl), (fun h => f3 (upd_ne h (by decide))), (fun _ => rfl), (fun h => f6 (upd_ne h (by decide))), (fun h => f7 (upd_ne h (by decide))), (fun h => f8 (upd_ne h (by decide))), (fun h => f9 (upd_ne h (by decide))), (fun h => f10 (upd_ne h (by decide)))⟩, 1, by decide, ⟨(by simp [upd]), ((upd_no (by decide)).trans (dd11.trans (by decide))), ((upd_no (by decide)).trans (dd12.trans (by decide))), ((upd_no (by decide)).trans (dd13.trans (by decide)))⟩, ⟨(fun h => absurd h (by decide)), (fun _ => ?new), (fun h => absurd h (by decide)), (fun h => absurd h (by decide)), (fun h => absurd h (by decide))⟩⟩
      case sg => exact G5.box
      case new =>
        exact ⟨rfl, G5⟩
    · rintro d ⟨x20, x21, x22, x23, x24, x25, x26, x27, x28, x29, x30, x31, x32, x6⟩ w' hI hd hdp KQ hK
      dsimp only at hI
      obtain ⟨hS, ⟨f0, f1, f2, f3, f4, f6, f7, f8, f9, f10⟩, j, hj, ⟨dd5, dd11, dd12, dd13⟩, ⟨p0, p1, p2, p3, p4⟩⟩ := hI
      have HF : Hid _ := And.intro hS (And.intro (And.intro f0 (And.intro f1 (And.intro f2 (And.intro f3 (And.intro f4 (And.intro f6 (And.intro f7 (And.intro f8 (And.intro f9 f10))))))))) (And.intro hj (And.intro (And.intro dd5 (And.intro dd11 (And.intro dd12 dd13))) (And.intro p0 (And.intro p1 (And.intro p2 (And.intro p3 p4)))))))
      clear hS f0 f1 f2 f3 f4 f6 f7 f8 f9 f10 hj dd5 dd11 dd12 dd13 p0 p1 p2 p3 p4 hdp hd
      refine Opn.mk ?_
      dsimp only
      go_simp
      obtain ⟨hS, ⟨f0, f1, f2, f3, f4, f6, f7, f8, f9, f10⟩, hj, ⟨dd5, dd11, dd12, dd13⟩, ⟨p0, p1, p2, p3, p4⟩⟩ := HF.out
      exact hK.out (x20, x21, x22, x23, x24, x25, .pointer (some ⟨rp, 0, none⟩), x27, x28, x29, x30, x31, x32, x6) _ ⟨hS, ⟨(fun h => f0 (upd_ne h (by decide))), (fun h => f1 (upd_ne h (by decide))), (fun h => f2 (upd_ne h (by decide))), (fun h => f3 (upd_ne h (by decide))), (fun h => f4 (upd_ne h (by decide))), (fun _ => rfl), (fun h => f7 (upd_ne h (by decide))), (fun h => f8 (upd_ne h (by decide))), (fun h => f9 (upd_ne h (by decide))), (fun h => f10 (upd_ne h (by decide)))⟩, j, hj, ⟨((upd_no (by decide)).trans dd5), ((upd_no (by decide)).trans dd11), ((upd_no (by decide)).trans dd12), ((upd_no (by decide)).trans dd13)⟩, ⟨p0, p1, p2, p3, p4⟩⟩
    · rintro d ⟨x20, x21, x22, x23, x24, x25, x26, x27, x28, x29, x30, x31, x32, x6⟩ w' hI hd hdp KQ hK
      dsimp only at hI
      obtain ⟨hS, ⟨f0, f1, f2, f3, f4, f6, f7, f8, f9, f10⟩, j, hj, ⟨dd5, dd11, dd12, dd13⟩, ⟨p0, p1, p2, p3, p4⟩⟩ := hI
      have HF : Hid _ := And.intro hS (And.intro (And.intro f0 (And.intro f1 (And.intro f2 (And.intro f3 (And.intro f4 (And.intro f6 (And.intro f7 (And.intro f8 (And.intro f9 f10))))))))) (And.intro hj (And.intro (And.intro dd5 (And.intro dd11 (And.intro dd12 dd13))) (And.intro p0 (And.intro p1 (And.intro p2 (And.intro p3 p4)))))))
      clear hS f0 f1 f2 f3 f4 f6 f7 f8 f9 f10 hj dd5 dd11 dd12 dd13 p0 p1 p2 p3 p4 hdp hd
      refine Opn.mk ?_
      dsimp only
      go_simp
      obtain ⟨hS, ⟨f0, f1, f2, f3, f4, f6, f7, f8, f9, f10⟩, hj, ⟨dd5, dd11, dd12, dd13⟩, ⟨p0, p1, p2, p3, p4⟩⟩ := HF.out
      exact hK.out (x20, x21, x22, x23, x24, x25, x26, .pointer (some ⟨bx, 1, none⟩), x28, x29, x30, x31, x32, x6) _ ⟨hS, ⟨(fun h => f0 (upd_ne h (by decide))), (fun h => f1 (upd_ne h (by decide))), (fun h => f2 (upd_ne h (by decide))), (fun h => f3 (upd_ne h (by decide))), (fun h => f4 (upd_ne h (by decide))), (fun h => f6 (upd_ne h (by decide))), (fun _ => rfl), (fun h => f8 (upd_ne h (by decide))), (fun h => f9 (upd_ne h (by decide))), (fun h => f10 (upd_ne h (by decide)))⟩, j, hj, ⟨((upd_no (by decide)).trans dd5), ((upd_no (by decide)).trans dd11), ((upd_no (by decide)).trans dd12), ((upd_no (by decide)).trans dd13)⟩, ⟨p0, p1, p2, p3, p4⟩⟩
    · rintro d ⟨x20, x21, x22, x23, x24, x25, x26, x27, x28, x29, x30, x31, x32, x6⟩ w' hI hd hdp KQ hK
      dsimp only at hI
      obtain ⟨hS, ⟨f0, f1, f2, f3, f4, f6, f7, f8, f9, f10⟩, j, hj, ⟨dd5, dd11, dd12, dd13⟩, ⟨p0, p1, p2, p3, p4⟩⟩ := hI
      obtain rfl := f7 (hdp 7 (by decide +kernel))
      have cc : w'.cell? ⟨bx, 1, none⟩ = some (.string ⟨A.toArray⟩) := BxA.cell hS 1 _ rfl
      have HF : Hid _ := And.intro hS (And.intro (And.intro f0 (And.intro f1 (And.intro f2 (And.intro f3 (And.intro f4 (And.intro f6 (And.intro f7 (And.intro f8 (And.intro f9 f10))))))))) (And.intro hj (And.intro (And.intro dd5 (And.intro dd11 (And.intro dd12 dd13))) (And.intro p0 (And.intro p1 (And.intro p2 (And.intro p3 p4)))))))
      clear hS f0 f1 f2 f3 f4 f6 f7 f8 f9 f10 hj dd5 dd11 dd12 dd13 p0 p1 p2 p3 p4 hdp hd
      refine Opn.mk ?_
      dsimp only
      go_simp
      obtain ⟨hS, ⟨f0, f1, f2, f3, f4, f6, f7, f8, f9, f10⟩, hj, ⟨dd5, dd11, dd12, dd13⟩, ⟨p0, p1, p2, p3, p4⟩⟩ := HF.out
      exact hK.out (x20, x21, x22, x23, x24, x25, x26, .pointer (some ⟨bx, 1, none⟩), .string ⟨A.toArray⟩, x29, x30, x31, x32, x6) _ ⟨hS, ⟨(fun h => f0 (upd_ne h (by decide))), (fun h => f1 (upd_ne h (by decide))), (fun h => f2 (upd_ne h (by decide))), (fun h => f3 (upd_ne h (by decide))), (fun h => f4 (upd_ne h (by decide))), (fun h => f6 (upd_ne h (by decide))), (fun _ => rfl), (fun _ => rfl), (fun h => f9 (upd_ne h (by decide))), (fun h => f10 (upd_ne h (by decide)))⟩, j, hj, ⟨((upd_no (by decide)).trans dd5), ((upd_no (by decide)).trans dd11), ((upd_no (by decide)).trans dd12), ((upd_no (by decide)).trans dd13)⟩, ⟨p0, p1, p2, p3, p4⟩⟩
    · rintro d ⟨x20, x21, x22, x23, x24, x25, x26, x27, x28, x29, x30, x31, x32, x6⟩ w' hI hd hdp KQ hK
      dsimp only at hI
      obtain ⟨hS, ⟨f0, f1, f2, f3, f4, f6, f7, f8, f9, f10⟩, j, hj, ⟨dd5, dd11, dd12, dd13⟩, ⟨p0, p1, p2, p3, p4⟩⟩ := hI
      have HF : Hid _ := And.intro hS (And.intro (And.intro f0 (And.intro f1 (And.intro f2 (And.intro f3 (And.intro f4 (And.intro f6 (And.intro f7 (And.intro f8 (And.intro f9 f10))))))))) (And.intro hj (And.intro (And.intro dd5 (And.intro dd11 (And.intro dd12 dd13))) (And.intro p0 (And.intro p1 (And.intro p2 (And.intro p3 p4)))))))
      clear hS f0 f1 f2 f3 f4 f6 f7 f8 f9 f10 hj dd5 dd11 dd12 dd13 p0 p1 p2 p3 p4 hdp hd
      refine Opn.mk ?_
      dsimp only
      go_simp
      obtain ⟨hS, ⟨f0, f1, f2, f3, f4, f6, f7, f8, f9, f10⟩, hj, ⟨dd5, dd11, dd12, dd13⟩, ⟨p0, p1, p2, p3, p4⟩⟩ := HF.out
      exact hK.out (x20, x21, x22, x23, x24, x25, x26, x27, x28, .pointer (some ⟨bx, 3, none⟩), x30, x31, x32, x6) _ ⟨hS, ⟨(fun h => f0 (upd_ne h (by decide))), (fun h => f1 (upd_ne h (by decide))), (fun h => f2 (upd_ne h (by decide))), (fun h => f3 (upd_ne h (by decide))), (fun h => f4 (upd_ne h (by decide))), (fun h => f6 (upd_ne h (by decide))), (fun h => f7 (upd_ne h (by decide))), (fun h => f8 (upd_ne h (by decide))), (fun _ => rfl), (fun h => f10 (upd_ne h (by decide)))⟩, j, hj, ⟨((upd_no (by decide)).trans dd5), ((upd_no (by decide)).trans dd11), ((upd_no (by decide)).trans dd12), ((upd_no (by decide)).trans dd13)⟩, ⟨p0, p1, p2, p3, p4⟩⟩
    · rintro d ⟨x20, x21, x22, x23, x24, x25, x26, x27, x28, x29, x30, x31, x32, x6⟩ w' hI hd hdp KQ hK
      dsimp only at hI
      obtain ⟨hS, ⟨f0, f1, f2, f3, f4, f6, f7, f8, f9, f10⟩, j, hj, ⟨dd5, dd11, dd12, dd13⟩, ⟨p0, p1, p2, p3, p4⟩⟩ := hI
      obtain rfl := f9 (hdp 9 (by decide +kernel))
      have cc : w'.cell? ⟨bx, 3, none⟩ = some (.slice ua bs.length uc) := BxA.cell hS 3 _ rfl
      have HF : Hid _ := And.intro hS (And.intro (And.intro f0 (And.intro f1 (And.intro f2 (And.intro f3 (And.intro f4 (And.intro f6 (And.intro f7 (And.intro f8 (And.intro f9 f10))))))))) (And.intro hj (And.intro (And.intro dd5 (And.intro dd11 (And.intro dd12 dd13))) (And.intro p0 (And.intro p1 (And.intro p2 (And.intro p3 p4)))))))
      clear hS f0 f1 f2 f3 f4 f6 f7 f8 f9 f10 hj dd5 dd11 dd12 dd13 p0 p1 p2 p3 p4 hdp hd
      refine Opn.mk ?_
      dsimp only
      go_simp
      obtain ⟨hS, ⟨f0, f1, f2, f3, f4, f6, f7, f8, f9, f10⟩, hj, ⟨dd5, dd11, dd12, dd13⟩, ⟨p0, p1, p2, p3, p4⟩⟩ := HF.out
      exact hK.out (x20, x21, x22, x23, x24, x25, x26, x27, x28, .pointer (some ⟨bx, 3, none⟩), .slice ua bs.length uc, x31, x32, x6) _ ⟨hS, ⟨(fun h => f0 (upd_ne h (by decide))), (fun h => f1 (upd_ne h (by decide))), (fun h => f2 (upd_ne h (by decide))), (fun h => f3 (upd_ne h (by decide))), (fun h => f4 (upd_ne h (by decide))), (fun h => f6 (upd_ne h (by decide))), (fun h => f7 (upd_ne h (by decide))), (fun h => f8 (upd_ne h (by decide))), (fun _ => rfl), (fun _ => rfl)⟩, j, hj, ⟨((upd_no (by decide)).trans dd5), ((upd_no (by decide)).trans dd11), ((upd_no (by decide)).trans dd12), ((upd_no (by decide)).trans dd13)⟩, ⟨p0, p1, p2, p3, p4⟩⟩
    · rintro d ⟨x20, x21, x22, x23, x24, x25, x26, x27, x28, x29, x30, x31, x32, x6⟩ w' hI hd hdp KQ hK
      dsimp only at hI
      obtain ⟨hS, ⟨f0, f1, f2, f3, f4, f6, f7, f8, f9, f10⟩, j, hj, ⟨dd5, dd11, dd12, dd13⟩, ⟨p0, p1, p2, p3, p4⟩⟩ := hI
      obtain rfl := f6 (hdp 6 (by decide +kernel))
      obtain rfl := f8 (hdp 8 (by decide +kernel))
      obtain rfl := f10 (hdp 10 (by decide +kernel))
      obtain rfl := ph_eq (k := 0) dd11 hd dd5 (hdp 5 (by decide +kernel))
      have s := p1 rfl
      clear p0 p1 p2 p3 p4 hj
      obtain ⟨ea, s⟩ := s
      have kk := pq_rappend s A (.slice ua bs.length uc) bs HN.out.2.2.1 HOK.out.r HN.out.1 HN.out.2.2.2.2.2.1 HN.out.2.2.2.2.2.2.1 HN.out.2.2.2.2.2.2.2
      rw [HC2.out] at kk
      have HG : Hid _ := And.intro hS (And.intro ea s)
      clear hS s ea
      have HF : Hid _ := And.intro (And.intro f0 (And.intro f1 (And.intro f2 (And.intro f3 (And.intro f4 (And.intro f6 (And.intro f7 (And.intro f8 (And.intro f9 f10))))))))) (And.intro dd5 (And.intro dd11 (And.intro dd12 dd13)))
      clear f0 f1 f2 f3 f4 f6 f7 f8 f9 f10 dd5 dd11 dd12 dd13 hdp hd
      refine Opn.mk ?_
      dsimp only
      go_simp
      go_wp2_with (first | (go_at_call 31; with_reducible refine kk.mono ?_; rintro e5 w5 ⟨rfl, G5⟩))
      obtain ⟨hS, ea, s⟩ := HG.out
      obtain ⟨⟨f0, f1, f2, f3, f4, f6, f7, f8, f9, f10⟩, ⟨dd5, dd11, dd12, dd13⟩⟩ := HF.out
      refine hK.out (x20, x21, x22, x23, x24, x25, .pointer (some ⟨rp, 0, none⟩), x27, .string ⟨A.toArray⟩, x29, .slice ua bs.length uc, .int .i64 (c : Int), x32, x6) _ ⟨?sg, ⟨(fun h => f0 (upd_ne h (by decide))), (fun h => f1 (upd_ne h (by decide))), (fun h => f2 (upd_ne h (by decide))), (fun h => f3 (upd_ne h (by decide))), (fun h => f4 (upd_ne h (by decide))), (fun _ => rfl), (fun h => f7 (upd_ne h (by decide))), (fun _ => rfl), (fun h => f9 (upd_ne h (by decide))), (fun _ => rfl)⟩, 2, by decide, ⟨((upd_no (by decide)).trans (dd5.trans (by decide))), (by simp [upd]), ((upd_no (by decide)).trans (dd12.trans (by decide))), ((upd_no (by decide)).trans (dd13.trans (by decide)))⟩, ⟨(fun h => absurd h (by decide)), (fun h => absurd h (by decide)), (fun _ => ?new), (fun h => absurd h (by decide)), (fun h => absurd h (by decide))⟩⟩
      case sg => exact G5.box
      case new =>
        exact ⟨ea, rfl, G5⟩
    · rintro d ⟨x20, x21, x22, x23, x24, x25, x26, x27, x28, x29, x30, x31, x32, x6⟩ w' hI hd hdp KQ hK
      dsimp only at hI
      obtain ⟨hS, ⟨f0, f1, f2, f3, f4, f6, f7, f8, f9, f10⟩, j, hj, ⟨dd5, dd11, dd12, dd13⟩, ⟨p0, p1, p2, p3, p4⟩⟩ := hI
      obtain rfl := ph_eq (k := 1) dd12 hd dd11 (hdp 11 (by decide +kernel))
      have s := p2 rfl
      clear p0 p1 p2 p3 p4 hj
      obtain ⟨ea, eb, s⟩ := s
      subst ea
      subst eb
      have HG : Hid _ := And.intro hS s
      clear hS s
      have HF : Hid _ := And.intro (And.intro f0 (And.intro f1 (And.intro f2 (And.intro f3 (And.intro f4 (And.intro f6 (And.intro f7 (And.intro f8 (And.intro f9 f10))))))))) (And.intro dd5 (And.intro dd11 (And.intro dd12 dd13)))
      clear f0 f1 f2 f3 f4 f6 f7 f8 f9 f10 dd5 dd11 dd12 dd13 hdp hd
      refine Opn.mk ?_
      dsimp only
      go_simp
      obtain ⟨hS, s⟩ := HG.out
      obtain ⟨⟨f0, f1, f2, f3, f4, f6, f7, f8, f9, f10⟩, ⟨dd5, dd11, dd12, dd13⟩⟩ := HF.out
      refine hK.out (x20, x21, x22, x23, x24, .int .i64 (c : Int), x26, x27, x28, x29, x30, .int .i64 (c : Int), .bool true, x6) _ ⟨?sg, ⟨(fun h => f0 (upd_ne h (by decide))), (fun h => f1 (upd_ne h (by decide))), (fun h => f2 (upd_ne h (by decide))), (fun h => f3 (upd_ne h (by decide))), (fun h => f4 (upd_ne h (by decide))), (fun h => f6 (upd_ne h (by decide))), (fun h => f7 (upd_ne h (by decide))), (fun h => f8 (upd_ne h (by decide))), (fun h => f9 (upd_ne h (by decide))), (fun h => f10 (upd_ne h (by decide)))⟩, 3, by decide, ⟨((upd_no (by decide)).trans (dd5.trans (by decide))), ((upd_no (by decide)).trans (dd11.trans (by decide))), (by simp [upd]), ((upd_no (by decide)).trans (dd13.trans (by decide)))⟩, ⟨(fun h => absurd h (by decide)), (fun h => absurd h (by decide)), (fun h => absurd h (by decide)), (fun _ => ?new), (fun h => absurd h (by decide))⟩⟩
      case sg => exact hS
      case new =>
        exact ⟨rfl, s⟩
    · rintro d ⟨x20, x21, x22, x23, x24, x25, x26, x27, x28, x29, x30, x31, x32, x6⟩ w' hI hd hdp KQ hK
      dsimp only at hI
      obtain ⟨hS, ⟨f0, f1, f2, f3, f4, f6, f7, f8, f9, f10⟩, j, hj, ⟨dd5, dd11, dd12, dd13⟩, ⟨p0, p1, p2, p3, p4⟩⟩ := hI
      obtain rfl := ph_eq (k := 2) dd13 hd dd12 (hdp 12 (by decide +kernel))
      have s := p3 rfl
      clear p0 p1 p2 p3 p4 hj
      obtain ⟨ea, s⟩ := s
      subst ea
      have HG : Hid _ := And.intro hS s
      clear hS s
      have HF : Hid _ := And.intro (And.intro f0 (And.intro f1 (And.intro f2 (And.intro f3 (And.intro f4 (And.intro f6 (And.intro f7 (And.intro f8 (And.intro f9 f10))))))))) (And.intro dd5 (And.intro dd11 (And.intro dd12 dd13)))
      clear f0 f1 f2 f3 f4 f6 f7 f8 f9 f10 dd5 dd11 dd12 dd13 hdp hd
      refine Opn.mk ?_
      dsimp only
      go_simp
      obtain ⟨hS, s⟩ := HG.out
      obtain ⟨⟨f0, f1, f2, f3, f4, f6, f7, f8, f9, f10⟩, ⟨dd5, dd11, dd12, dd13⟩⟩ := HF.out
      refine hK.out (x20, x21, x22, x23, x24, x25, x26, x27, x28, x29, x30, x31, .bool true, .bool true) _ ⟨?sg, ⟨(fun h => f0 (upd_ne h (by decide))), (fun h => f1 (upd_ne h (by decide))), (fun h => f2 (upd_ne h (by decide))), (fun h => f3 (upd_ne h (by decide))), (fun h => f4 (upd_ne h (by decide))), (fun h => f6 (upd_ne h (by decide))), (fun h => f7 (upd_ne h (by decide))), (fun h => f8 (upd_ne h (by decide))), (fun h => f9 (upd_ne h (by decide))), (fun h => f10 (upd_ne h (by decide)))⟩, 4, by decide, ⟨((upd_no (by decide)).trans (dd5.trans (by decide))), ((upd_no (by decide)).trans (dd11.trans (by decide))), ((upd_no (by decide)).trans (dd12.trans (by decide))), (by simp [upd])⟩, ⟨(fun h => absurd h (by decide)), (fun h => absurd h (by decide)), (fun h => absurd h (by decide)), (fun h => absurd h (by decide)), (fun _ => ?new)⟩⟩
      case sg => exact hS
      case new =>
        exact ⟨rfl, s⟩
  case he20 =>
    rintro d ⟨x20, x21, x22, x23, x24, x25, x26, x27, x28, x29, x30, x31, x32, x6⟩ w' hall hI
    dsimp only at hI
    obtain ⟨hS, ⟨f0, f1, f2, f3, f4, f6, f7, f8, f9, f10⟩, j, hj, ⟨dd5, dd11, dd12, dd13⟩, ⟨p0, p1, p2, p3, p4⟩⟩ := hI
    obtain rfl := ph_end (k := 3) hj dd13 (hall 13 (by decide))
    have s := p4 rfl
    clear hall hj f0 f1 f2 f3 f4 f6 f7 f8 f9 f10 dd5 dd11 dd12 dd13 p0 p1 p2 p3 p4
    obtain ⟨ea, s⟩ := s
    subst ea
    have HG : Hid _ := s
    clear hS s
    dsimp only
    go_wp2_with fail
    go_ret
    exact ⟨rfl, ⟨_, _, Pq.pp (t0 := tr) HG.out (HN.out.2.1) (HR.out.append A bs).2 (rapp_pt tr A bs).2 HB.out.1 (by rw [(rapp_pt tr A bs).1]; exact HB.out.2.1) (nms_append HM.out A bs)⟩⟩
set_option maxRecDepth 100000 in
set_option maxHeartbeats 3200000 in
theorem both_1 (w0 w : World) (dp rp m : Nat) (sd : St) (tr : RSt) (K n : Int) (A B : Str) (ua : Option Addr) (uc : Nat) (bs : Str) (h : Pp w0 w dp rp m sd tr) (hm : m < 150) (ok : OpM.Ok w0 ⟨K, A, B, .slice ua bs.length uc, bs, n⟩) (hk : absN K % 12 = 1) :
    Calls Try.prog 13 #[.pointer (some ⟨dp, 0, none⟩), .pointer (some ⟨rp, 0, none⟩), .agg #[.int .i64 K, .string ⟨A.toArray⟩, .string ⟨B.toArray⟩, .slice ua bs.length uc, .int .i64 n]] w fun e w' => e = .returned (.bool true) ∧ Bth w0 w' dp rp m := by
  have mixed : Try.prog.follows .mixedOrders = true := by kernel_rfl
  obtain ⟨W, hW⟩ : ∃ W, W = w.alloc (.cells #[.int .i64 K, .string ⟨A.toArray⟩, .string ⟨B.toArray⟩, .slice ua bs.length uc, .int .i64 n] 31) := ⟨_, rfl⟩
  have hq := h.box hW
  have kAb := abs_any W K ok.k1 ok.k2
  have hab : (absN K : Int) % 12 = 1 := by omega
  have HR : Hid (Rel sd tr) := h.rel
  have HM : Hid (NmS sd) := h.nm
  have HB : Hid (tr.n ≤ m ∧ tr.part ≤ 9223372036854775807 ∧ m < 150) := ⟨h.n, h.part, hm⟩
  have HW : Hid (W = w.alloc (.cells #[.int .i64 K, .string ⟨A.toArray⟩, .string ⟨B.toArray⟩, .slice ua bs.length uc, .int .i64 n] 31)) := hW
  have hA : A.length ≤ maxLen := by have := ok.a; simp only at this; unfold maxLen; omega
  have hBl : B.length ≤ maxLen := by have := ok.b; simp only at this; unfold maxLen; omega
  have HOK : Hid (OpM.Ok w0 ⟨K, A, B, .slice ua bs.length uc, bs, n⟩) := ok
  have hN : m * 2097152 + bs.length + bs.length ≤ 140737488355328 := by have := ok.rl; simp only at this; omega
  have hN2 : m * 2097152 + bs.length + bs.length ≤ (m + 1) * 2097152 := by have := ok.rl; simp only at this; omega
  have hop : sd.ops < 1000000 := by have := h.n; have := h.rel.n; omega
  have hopt : tr.n < 1000000 := by have := h.n; omega
  have hpt := h.part
  have hS := h.rel.sp.srt
  have HQ : Hid (Pq w0 W dp rp (m * 2097152) sd tr w.heap.size 31 #[.int .i64 K, .string ⟨A.toArray⟩, .string ⟨B.toArray⟩, .slice ua bs.length uc, .int .i64 n]) := hq
  obtain ⟨bx, hbx⟩ : ∃ b, b = w.heap.size := ⟨_, rfl⟩
  rw [← hbx] at HQ
  have HN : Hid (m * 2097152 + bs.length + bs.length ≤ 140737488355328 ∧ m * 2097152 + bs.length + bs.length ≤ (m + 1) * 2097152 ∧ A.length ≤ maxLen ∧ B.length ≤ maxLen ∧ sd.ops < 1000000 ∧ tr.n < 1000000 ∧ tr.part ≤ 9223372036854775807 ∧ Srt tr.fs) := ⟨hN, hN2, hA, hBl, hop, hopt, hpt, hS⟩
  have HNN : Hid (m * 2097152 ≤ 140737488355328 ∧ m * 2097152 ≤ (m + 1) * 2097152) := by apply hide; omega
  have c0 := HQ.out.box.cell 0 _ rfl
  clear hq h ok hW hm hA hBl hN hN2 hop hopt hpt hS hk
  go_enter Try.func13, Try.ntmps13
  go_wp2_with fail
  rw [← HW.out]
  go_wp2_with fail
  refine kAb.mono ?_
  rintro e wq ⟨rfl, rfl⟩
  clear kAb
  go_upto_region 5 with fail
  rw [← hbx]
  try rw [hab]
  clear hbx hab
  obtain ⟨c, hc⟩ : ∃ c, c = (sd.append A bs).1 := ⟨_, rfl⟩
  have HC1 : Hid ((sd.append A bs).1 = c) := hc.symm
  have HC2 : Hid ((rapp tr A bs).1 = c) := by apply hide; rw [hc]; exact (HR.out.append A bs).1.symm
  have hSig0 : BxA wq.drew bx 31 #[.int .i64 K, .string ⟨A.toArray⟩, .string ⟨B.toArray⟩, .slice ua bs.length uc, .int .i64 n] := HQ.out.box
  have hS00 : Pq w0 wq.drew dp rp (m * 2097152) sd tr bx 31 #[.int .i64 K, .string ⟨A.toArray⟩, .string ⟨B.toArray⟩, .slice ua bs.length uc, .int .i64 n] := pq_drew HQ.out
  clear hc c0
  refine wp_region_invF (β := Value × Value × Value × Value × Value × Value × Value × Value × Value × Value × Value × Value × Value × Value) (fun a0 xq => ((((((((((((((a0.put (some 20) (xq.1)).put (some 21) (xq.2.1)).put (some 22) (xq.2.2.1)).put (some 23) (xq.2.2.2.1)).put (some 24) (xq.2.2.2.2.1)).put (some 25) (xq.2.2.2.2.2.1)).put (some 26) (xq.2.2.2.2.2.2.1)).put (some 27) (xq.2.2.2.2.2.2.2.1)).put (some 28) (xq.2.2.2.2.2.2.2.2.1)).put (some 29) (xq.2.2.2.2.2.2.2.2.2.1)).put (some 30) (xq.2.2.2.2.2.2.2.2.2.2.1)).put (some 31) (xq.2.2.2.2.2.2.2.2.2.2.2.1)).put (some 32) (xq.2.2.2.2.2.2.2.2.2.2.2.2.1)).put (some 6) (xq.2.2.2.2.2.2.2.2.2.2.2.2.2))) ?fr20 (fun xq d w' => (BxA w' bx 31 #[.int .i64 K, .string ⟨A.toArray⟩, .string ⟨B.toArray⟩, .slice ua bs.length uc, .int .i64 n]) ∧ ((d 0 = true → (xq.1) = .pointer (some ⟨dp, 0, none⟩)) ∧ (d 1 = true → (xq.2.1) = .pointer (some ⟨bx, 1, none⟩)) ∧ (d 2 = true → (xq.2.2.1) = .string ⟨A.toArray⟩) ∧ (d 3 = true → (xq.2.2.2.1) = .pointer (some ⟨bx, 3, none⟩)) ∧ (d 4 = true → (xq.2.2.2.2.1) = .slice ua bs.length uc) ∧ (d 6 = true → (xq.2.2.2.2.2.2.1) = .pointer (some ⟨rp, 0, none⟩)) ∧ (d 7 = true → (xq.2.2.2.2.2.2.2.1) = .pointer (some ⟨bx, 1, none⟩)) ∧ (d 8 = true → (xq.2.2.2.2.2.2.2.2.1) = .string ⟨A.toArray⟩) ∧ (d 9 = true → (xq.2.2.2.2.2.2.2.2.2.1) = .pointer (some ⟨bx, 3, none⟩)) ∧ (d 10 = true → (xq.2.2.2.2.2.2.2.2.2.2.1) = .slice ua bs.length uc)) ∧ ∃ j : Nat, j ≤ 4 ∧ (d 5 = decide (0 < j) ∧ d 11 = decide (1 < j) ∧ d 12 = decide (2 < j) ∧ d 13 = decide (3 < j)) ∧ ((j = 0 → Pq w0 w' dp rp (m * 2097152) (sd) (tr) bx 31 #[.int .i64 K, .string ⟨A.toArray⟩, .string ⟨B.toArray⟩, .slice ua bs.length uc, .int .i64 n]) ∧ (j = 1 → (xq.2.2.2.2.2.1) = .int .i64 (c : Int) ∧ Pq w0 w' dp rp (m * 2097152 + bs.length) ((sd.append A bs).2) (tr) bx 31 #[.int .i64 K, .string ⟨A.toArray⟩, .string ⟨B.toArray⟩, .slice ua bs.length uc, .int .i64 n]) ∧ (j = 2 → (xq.2.2.2.2.2.1) = .int .i64 (c : Int) ∧ (xq.2.2.2.2.2.2.2.2.2.2.2.1) = .int .i64 (c : Int) ∧ Pq w0 w' dp rp (m * 2097152 + bs.length + bs.length) ((sd.append A bs).2) ((rapp tr A bs).2) bx 31 #[.int .i64 K, .string ⟨A.toArray⟩, .string ⟨B.toArray⟩, .slice ua bs.length uc, .int .i64 n]) ∧ (j = 3 → (xq.2.2.2.2.2.2.2.2.2.2.2.2.1) = .bool true ∧ Pq w0 w' dp rp (m * 2097152 + bs.length + bs.length) ((sd.append A bs).2) ((rapp tr A bs).2) bx 31 #[.int .i64 K, .string ⟨A.toArray⟩, .string ⟨B.toArray⟩, .slice ua bs.length uc, .int .i64 n]) ∧ (j = 4 → (xq.2.2.2.2.2.2.2.2.2.2.2.2.2) = .bool true ∧ Pq w0 w' dp rp (m * 2097152 + bs.length + bs.length) ((sd.append A bs).2) ((rapp tr A bs).2) bx 31 #[.int .i64 K, .string ⟨A.toArray⟩, .string ⟨B.toArray⟩, .slice ua bs.length uc, .int .i64 n]))) ?lay20 mixed (by kernel_rfl) ?h020 ?hs20 ?he20
  case lay20 =>
    intro xq
    simp only [Act.put, List.setIfInBounds_toArray, List.set_cons_zero, List.set_cons_succ]
    rfl
  case h020 =>
    refine ⟨(undef, undef, undef, undef, undef, undef, undef, undef, undef, undef, undef, undef, undef, .bool false), rfl, ?sig20, ⟨(fun h => by cases h), (fun h => by cases h), (fun h => by cases h), (fun h => by cases h), (fun h => by cases h), (fun h => by cases h), (fun h => by cases h), (fun h => by cases h), (fun h => by cases h), (fun h => by cases h)⟩, 0, Nat.zero_le _, ⟨rfl, rfl, rfl, rfl⟩, ?S020, (fun h => by cases h), (fun h => by cases h), (fun h => by cases h), (fun h => by cases h)⟩
    case sig20 => exact hSig0
    case S020 => exact fun _ => hS00
  case hs20 =>
    refine ⟨?_, ?_, ?_, ?_, ?_, ?_, ?_, ?_, ?_, ?_, ?_, ?_, ?_, ?_, trivial⟩
    · rintro d ⟨x20, x21, x22, x23, x24, x25, x26, x27, x28, x29, x30, x31, x32, x6⟩ w' hI hd hdp KQ hK
      dsimp only at hI
      obtain ⟨hS, ⟨f0, f1, f2, f3, f4, f6, f7, f8, f9, f10⟩, j, hj, ⟨dd5, dd11, dd12, dd13⟩, ⟨p0, p1, p2, p3, p4⟩⟩ := hI
      have HF : Hid _ := And.intro hS (And.intro (And.intro f0 (And.intro f1 (And.intro f2 (And.intro f3 (And.intro f4 (And.intro f6 (And.intro f7 (And.intro f8 (And.intro f9 f10))))))))) (And.intro hj (And.intro (And.intro dd5 (And.intro dd11 (And.intro dd12 dd13))) (And.intro p0 (And.intro p1 (And.intro p2 (And.intro p3 p4)))))))
      clear hS f0 f1 f2 f3 f4 f6 f7 f8 f9 f10 hj dd5 dd11 dd12 dd13 p0 p1 p2 p3 p4 hdp hd
      refine Opn.mk ?_
      dsimp only
      go_simp
      obtain ⟨hS, ⟨f0, f1, f2, f3, f4, f6, f7, f8, f9, f10⟩, hj, ⟨dd5, dd11, dd12, dd13⟩, ⟨p0, p1, p2, p3, p4⟩⟩ := HF.out
      exact hK.out (.pointer (some ⟨dp, 0, none⟩), x21, x22, x23, x24, x25, x26, x27, x28, x29, x30, x31, x32, x6) _ ⟨hS, ⟨(fun _ => rfl), (fun h => f1 (upd_ne h (by decide))), (fun h => f2 (upd_ne h (by decide))), (fun h => f3 (upd_ne h (by decide))), (fun h => f4 (upd_ne h (by decide))), (fun h => f6 (upd_ne h (by decide))), (fun h => f7 (upd_ne h (by decide))), (fun h => f8 (upd_ne h (by decide))), (fun h => f9 (upd_ne h (by decide))), (fun h => f10 (upd_ne h (by decide)))⟩, j, hj, ⟨((upd_no (by decide)).trans dd5), ((upd_no (by decide)).trans dd11), ((upd_no (by decide)).trans dd12), ((upd_no (by decide)).trans dd13)⟩, ⟨p0, p1, p2, p3, p4⟩⟩
    · rintro d ⟨x20, x21, x22, x23, x24, x25, x26, x27, x28, x29, x30, x31, x32, x6⟩ w' hI hd hdp KQ hK
      dsimp only at hI
      obtain ⟨hS, ⟨f0, f1, f2, f3, f4, f6, f7, f8, f9, f10⟩, j, hj, ⟨dd5, dd11, dd12, dd13⟩, ⟨p0, p1, p2, p3, p4⟩⟩ := hI
      have HF : Hid _ := And.intro hS (And.intro (And.intro f0 (And.intro f1 (And.intro f2 (And.intro f3 (And.intro f4 (And.intro f6 (And.intro f7 (And.intro f8 (And.intro f9 f10))))))))) (And.intro hj (And.intro (And.intro dd5 (And.intro dd11 (And.intro dd12 dd13))) (And.intro p0 (And.intro p1 (And.intro p2 (And.intro p3 p4)))))))
      clear hS f0 f1 f2 f3 f4 f6 f7 f8 f9 f10 hj dd5 dd11 dd12 dd13 p0 p1 p2 p3 p4 hdp hd
      refine Opn.mk ?_
      dsimp only
      go_simp
      obtain ⟨hS, ⟨f0, f1, f2, f3, f4, f6, f7, f8, f9, f10⟩, hj, ⟨dd5, dd11, dd12, dd13⟩, ⟨p0, p1, p2, p3, p4⟩⟩ := HF.out
      exact hK.out (x20, .pointer (some ⟨bx, 1, none⟩), x22, x23, x24, x25, x26, x27, x28, x29, x30, x31, x32, x6) _ ⟨hS, ⟨(fun h => f0 (upd_ne h (by decide))), (fun _ => rfl), (fun h => f2 (upd_ne h (by decide))), (fun h => f3 (upd_ne h (by decide))), (fun h => f4 (upd_ne h (by decide))), (fun h => f6 (upd_ne h (by decide))), (fun h => f7 (upd_ne h (by decide))), (fun h => f8 (upd_ne h (by decide))), (fun h => f9 (upd_ne h (by decide))), (fun h => f10 (upd_ne h (by decide)))⟩, j, hj, ⟨((upd_no (by decide)).trans dd5), ((upd_no (by decide)).trans dd11), ((upd_no (by decide)).trans dd12), ((upd_no (by decide)).trans dd13)⟩, ⟨p0, p1, p2, p3, p4⟩⟩
    · rintro d ⟨x20, x21, x22, x23, x24, x25, x26, x27, x28, x29, x30, x31, x32, x6⟩ w' hI hd hdp KQ hK
      dsimp only at hI
      obtain ⟨hS, ⟨f0, f1, f2, f3, f4, f6, f7, f8, f9, f10⟩, j, hj, ⟨dd5, dd11, dd12, dd13⟩, ⟨p0, p1, p2, p3, p4⟩⟩ := hI
      obtain rfl := f1 (hdp 1 (by decide +kernel))
      have cc : w'.cell? ⟨bx, 1, none⟩ = some (.string ⟨A.toArray⟩) := BxA.cell hS 1 _ rfl
      have HF : Hid _ := And.intro hS (And.intro (And.intro f0 (And.intro f1 (And.intro f2 (And.intro f3 (And.intro f4 (And.intro f6 (And.intro f7 (And.intro f8 (And.intro f9 f10))))))))) (And.intro hj (And.intro (And.intro dd5 (And.intro dd11 (And.intro dd12 dd13))) (And.intro p0 (And.intro p1 (And.intro p2 (And.intro p3 p4)))))))
      clear hS f0 f1 f2 f3 f4 f6 f7 f8 f9 f10 hj dd5 dd11 dd12 dd13 p0 p1 p2 p3 p4 hdp hd
      refine Opn.mk ?_
      dsimp only
      go_simp
      obtain ⟨hS, ⟨f0, f1, f2, f3, f4, f6, f7, f8, f9, f10⟩, hj, ⟨dd5, dd11, dd12, dd13⟩, ⟨p0, p1, p2, p3, p4⟩⟩ := HF.out
      exact hK.out (x20, .pointer (some ⟨bx, 1, none⟩), .string ⟨A.toArray⟩, x23, x24, x25, x26, x27, x28, x29, x30, x31, x32, x6) _ ⟨hS, ⟨(fun h => f0 (upd_ne h (by decide))), (fun _ => rfl), (fun _ => rfl), (fun h => f3 (upd_ne h (by decide))), (fun h => f4 (upd_ne h (by decide))), (fun h => f6 (upd_ne h (by decide))), (fun h => f7 (upd_ne h (by decide))), (fun h => f8 (upd_ne h (by decide))), (fun h => f9 (upd_ne h (by decide))), (fun h => f10 (upd_ne h (by decide)))⟩, j, hj, ⟨((upd_no (by decide)).trans dd5), ((upd_no (by decide)).trans dd11), ((upd_no (by decide)).trans dd12), ((upd_no (by decide)).trans dd13)⟩, ⟨p0, p1, p2, p3, p4⟩⟩
    · rintro d ⟨x20, x21, x22, x23, x24, x25, x26, x27, x28, x29, x30, x31, x32, x6⟩ w' hI hd hdp KQ hK
      dsimp only at hI
      obtain ⟨hS, ⟨f0, f1, f2, f3, f4, f6, f7, f8, f9, f10⟩, j, hj, ⟨dd5, dd11, dd12, dd13⟩, ⟨p0, p1, p2, p3, p4⟩⟩ := hI
      have HF : Hid _ := And.intro hS (And.intro (And.intro f0 (And.intro f1 (And.intro f2 (And.intro f3 (And.intro f4 (And.intro f6 (And.intro f7 (And.intro f8 (And.intro f9 f10))))))))) (And.intro hj (And.intro (And.intro dd5 (And.intro dd11 (And.intro dd12 dd13))) (And.intro p0 (And.intro p1 (And.intro p2 (And.intro p3 p4)))))))
      clear hS f0 f1 f2 f3 f4 f6 f7 f8 f9 f10 hj dd5 dd11 dd12 dd13 p0 p1 p2 p3 p4 hdp hd
      refine Opn.mk ?_
      dsimp only
      go_simp
      obtain ⟨hS, ⟨f0, f1, f2, f3, f4, f6, f7, f8, f9, f10⟩, hj, ⟨dd5, dd11, dd12, dd13⟩, ⟨p0, p1, p2, p3, p4⟩⟩ := HF.out
      exact hK.out (x20, x21, x22, .pointer (some ⟨bx, 3, none⟩), x24, x25, x26, x27, x28, x29, x30, x31, x32, x6) _ ⟨hS, ⟨(fun h => f0 (upd_ne h (by decide))), (fun h => f1 (upd_ne h (by decide))), (fun h => f2 (upd_ne h (by decide))), (fun _ => rfl), (fun h => f4 (upd_ne h (by decide))), (fun h => f6 (upd_ne h (by decide))), (fun h => f7 (upd_ne h (by decide))), (fun h => f8 (upd_ne h (by decide))), (fun h => f9 (upd_ne h (by decide))), (fun h => f10 (upd_ne h (by decide)))⟩, j, hj, ⟨((upd_no (by decide)).trans dd5), ((upd_no (by decide)).trans dd11), ((upd_no (by decide)).trans dd12), ((upd_no (by decide)).trans dd13)⟩, ⟨p0, p1, p2, p3, p4⟩⟩
    · rintro d ⟨x20, x21, x22, x23, x24, x25, x26, x27, x28, x29, x30, x31, x32, x6⟩ w' hI hd hdp KQ hK
      dsimp only at hI
      obtain ⟨hS, ⟨f0, f1, f2, f3, f4, f6, f7, f8, f9, f10⟩, j, hj, ⟨dd5, dd11, dd12, dd13⟩, ⟨p0, p1, p2, p3, p4⟩⟩ := hI
      obtain rfl := f3 (hdp 3 (by decide +kernel))
      have cc : w'.cell? ⟨bx, 3, none⟩ = some (.slice ua bs.length uc) := BxA.cell hS 3 _ rfl
      have HF : Hid _ := And.intro hS (And.intro (And.intro f0 (And.intro f1 (And.intro f2 (And.intro f3 (And.intro f4 (And.intro f6 (And.intro f7 (And.intro f8 (And.intro f9 f10))))))))) (And.intro hj (And.intro (And.intro dd5 (And.intro dd11 (And.intro dd12 dd13))) (And.intro p0 (And.intro p1 (And.intro p2 (And.intro p3 p4)))))))
      clear hS f0 f1 f2 f3 f4 f6 f7 f8 f9 f10 hj dd5 dd11 dd12 dd13 p0 p1 p2 p3 p4 hdp hd
      refine Opn.mk ?_
      dsimp only
      go_simp
      obtain ⟨hS, ⟨f0, f1, f2, f3, f4, f6, f7, f8, f9, f10⟩, hj, ⟨dd5, dd11, dd12, dd13⟩, ⟨p0, p1, p2, p3, p4⟩⟩ := HF.out
      exact hK.out (x20, x21, x22, .pointer (some ⟨bx, 3, none⟩), .slice ua bs.length uc, x25, x26, x27, x28, x29, x30, x31, x32, x6) _ ⟨hS, ⟨(fun h => f0 (upd_ne h (by decide))), (fun h => f1 (upd_ne h (by decide))), (fun h => f2 (upd_ne h (by decide))), (fun _ => rfl), (fun _ => rfl), (fun h => f6 (upd_ne h (by decide))), (fun h => f7 (upd_ne h (by decide))), (fun h => f8 (upd_ne h (by decide))), (fun h => f9 (upd_ne h (by decide))), (fun h => f10 (upd_ne h (by decide)))⟩, j, hj, ⟨((upd_no (by decide)).trans dd5), ((upd_no (by decide)).trans dd11), ((upd_no (by decide)).trans dd12), ((upd_no (by decide)).trans dd13)⟩, ⟨p0, p1, p2, p3, p4⟩⟩
    · rintro d ⟨x20, x21, x22, x23, x24, x25, x26, x27, x28, x29, x30, x31, x32, x6⟩ w' hI hd hdp KQ hK
      dsimp only at hI
      obtain ⟨hS, ⟨f0, f1, f2, f3, f4, f6, f7, f8, f9, f10⟩, j, hj, ⟨dd5, dd11, dd12, dd13⟩, ⟨p0, p1, p2, p3, p4⟩⟩ := hI
      obtain rfl := f0 (hdp 0 (by decide +kernel))
      obtain rfl := f2 (hdp 2 (by decide +kernel))
      obtain rfl := f4 (hdp 4 (by decide +kernel))
      obtain rfl := ph_zero dd5 hd
      have s := p0 rfl
      clear p0 p1 p2 p3 p4 hj
      have kk := pq_append s A (.slice ua bs.length uc) bs HN.out.2.2.1 HOK.out.r (Nat.le_trans (Nat.le_add_right _ _) HN.out.1) HN.out.2.2.2.2.1
      rw [HC1.out] at kk
      have HG : Hid _ := And.intro hS s
      clear hS s
      have HF : Hid _ := And.intro (And.intro f0 (And.intro f1 (And.intro f2 (And.intro f3 (And.intro f4 (And.intro f6 (And.intro f7 (And.intro f8 (And.intro f9 f10))))))))) (And.intro dd5 (And.intro dd11 (And.intro dd12 dd13)))
      clear f0 f1 f2 f3 f4 f6 f7 f8 f9 f10 dd5 dd11 dd12 dd13 hdp hd
      refine Opn.mk ?_
      dsimp only
      go_simp
      go_wp2_with (first | (go_at_call 23; with_reducible refine kk.mono ?_; rintro e5 w5 ⟨rfl, G5⟩))
      obtain ⟨hS, s⟩ := HG.out
      obtain ⟨⟨f0, f1, f2, f3, f4, f6, f7, f8, f9, f10⟩, ⟨dd5, dd11, dd12, dd13⟩⟩ := HF.out
      refine hK.out (.pointer (some ⟨dp, 0, none⟩), x21, .string ⟨A.toArray⟩, x23, .slice ua bs.length uc, .int .i64 (c : Int), x26, x27, x28, x29, x30, x31, x32, x6) _ ⟨?sg, ⟨(fun _ => rfl), (fun h => f1 (upd_ne h (by decide))), (fun _ => rfl), (fun h => f3 (upd_ne h (by decide))), (fun _ => rfl), (fun h => f6 (upd_ne h (by decide))), (fun h => f7 (upd_ne h (by decide))), (fun h => f8 (upd_ne h (by decide))), (fun h => f9 (upd_ne h (by decide))), (fun h => f10 (upd_ne h (by decide)))⟩, 1, by decide, ⟨(by simp [upd]), ((upd_no (by decide)).trans (dd11.trans (by decide))), ((upd_no (by decide)).trans (dd12.trans (by decide))), ((upd_no (by decide)).trans (dd13.trans (by decide)))⟩, ⟨(fun h => absurd h (by decide)), (fun _ => ?new), (fun h => absurd h (by decide)), (fun h => absurd h (by decide)), (fun h => absurd h (by decide))⟩⟩
      case sg => exact G5.box
      case new =>
        exact ⟨rfl, G5⟩
    · rintro d ⟨x20, x21, x22, x23, x24, x25, x26, x27, x28, x29, x30, x31, x32, x6⟩ w' hI hd hdp KQ hK
      dsimp only at hI
      obtain ⟨hS, ⟨f0, f1, f2, f3, f4, f6, f7, f8, f9, f10⟩, j, hj, ⟨dd5, dd11, dd12, dd13⟩, ⟨p0, p1, p2, p3, p4⟩⟩ := hI
      have HF : Hid _ := And.intro hS (And.intro (And.intro f0 (And.intro f1 (And.intro f2 (And.intro f3 (And.intro f4 (And.intro f6 (And.intro f7 (And.intro f8 (And.intro f9 f10))))))))) (And.intro hj (And.intro (And.intro dd5 (And.intro dd11 (And.intro dd12 dd13))) (And.intro p0 (And.intro p1 (And.intro p2 (And.intro p3 p4)))))))
      clear hS f0 f1 f2 f3 f4 f6 f7 f8 f9 f10 hj dd5 dd11 dd12 dd13 p0 p1 p2 p3 p4 hdp hd
      refine Opn.mk ?_
      dsimp only
      go_simp
      obtain ⟨hS, ⟨f0, f1, f2, f3, f4, f6, f7, f8, f9, f10⟩, hj, ⟨dd5, dd11, dd12, dd13⟩, ⟨p0, p1, p2, p3, p4⟩⟩ := HF.out
      exact hK.out (x20, x21, x22, x23, x24, x25, .pointer (some ⟨rp, 0, none⟩), x27, x28, x29, x30, x31, x32, x6) _ ⟨hS, ⟨(fun h => f0 (upd_ne h (by decide))), (fun h => f1 (upd_ne h (by decide))), (fun h => f2 (upd_ne h (by decide))), (fun h => f3 (upd_ne h (by decide))), (fun h => f4 (upd_ne h (by decide))), (fun _ => rfl), (fun h => f7 (upd_ne h (by decide))), (fun h => f8 (upd_ne h (by decide))), (fun h => f9 (upd_ne h (by decide))), (fun h => f10 (upd_ne h (by decide)))⟩, j, hj, ⟨((upd_no (by decide)).trans dd5), ((upd_no (by decide)).trans dd11), ((upd_no (by decide)).trans dd12), ((upd_no (by decide)).trans dd13)⟩, ⟨p0, p1, p2, p3, p4⟩⟩
    · rintro d ⟨x20, x21, x22, x23, x24, x25, x26, x27, x28, x29, x30, x31, x32, x6⟩ w' hI hd hdp KQ hK
      dsimp only at hI
      obtain ⟨hS, ⟨f0, f1, f2, f3, f4, f6, f7, f8, f9, f10⟩, j, hj, ⟨dd5, dd11, dd12, dd13⟩, ⟨p0, p1, p2, p3, p4⟩⟩ := hI
      have HF : Hid _ := And.intro hS (And.intro (And.intro f0 (And.intro f1 (And.intro f2 (And.intro f3 (And.intro f4 (And.intro f6 (And.intro f7 (And.intro f8 (And.intro f9 f10))))))))) (And.intro hj (And.intro (And.intro dd5 (And.intro dd11 (And.intro dd12 dd13))) (And.intro p0 (And.intro p1 (And.intro p2 (And.intro p3 p4)))))))
      clear hS f0 f1 f2 f3 f4 f6 f7 f8 f9 f10 hj dd5 dd11 dd12 dd13 p0 p1 p2 p3 p4 hdp hd
      refine Opn.mk ?_
      dsimp only
      go_simp
      obtain ⟨hS, ⟨f0, f1, f2, f3, f4, f6, f7, f8, f9, f10⟩, hj, ⟨dd5, dd11, dd12, dd13⟩, ⟨p0, p1, p2, p3, p4⟩⟩ := HF.out
      exact hK.out (x20, x21, x22, x23, x24, x25, x26, .pointer (some ⟨bx, 1, none⟩), x28, x29, x30, x31, x32, x6) _ ⟨hS, ⟨(fun h => f0 (upd_ne h (by decide))), (fun h => f1 (upd_ne h (by decide))), (fun h => f2 (upd_ne h (by decide))), (fun h => f3 (upd_ne h (by decide))), (fun h => f4 (upd_ne h (by decide))), (fun h => f6 (upd_ne h (by decide))), (fun _ => rfl), (fun h => f8 (upd_ne h (by decide))), (fun h => f9 (upd_ne h (by decide))), (fun h => f10 (upd_ne h (by decide)))⟩, j, hj, ⟨((upd_no (by decide)).trans dd5), ((upd_no (by decide)).trans dd11), ((upd_no (by decide)).trans dd12), ((upd_no (by decide)).trans dd13)⟩, ⟨p0, p1, p2, p3, p4⟩⟩
    · rintro d ⟨x20, x21, x22, x23, x24, x25, x26, x27, x28, x29, x30, x31, x32, x6⟩ w' hI hd hdp KQ hK
      dsimp only at hI
      obtain ⟨hS, ⟨f0, f1, f2, f3, f4, f6, f7, f8, f9, f10⟩, j, hj, ⟨dd5, dd11, dd12, dd13⟩, ⟨p0, p1, p2, p3, p4⟩⟩ := hI
      obtain rfl := f7 (hdp 7 (by decide +kernel))
      have cc : w'.cell? ⟨bx, 1, none⟩ = some (.string ⟨A.toArray⟩) := BxA.cell hS 1 _ rfl
      have HF : Hid _ := And.intro hS (And.intro (And.intro f0 (And.intro f1 (And.intro f2 (And.intro f3 (And.intro f4 (And.intro f6 (And.intro f7 (And.intro f8 (And.intro f9 f10))))))))) (And.intro hj (And.intro (And.intro dd5 (And.intro dd11 (And.intro dd12 dd13))) (And.intro p0 (And.intro p1 (And.intro p2 (And.intro p3 p4)))))))
      clear hS f0 f1 f2 f3 f4 f6 f7 f8 f9 f10 hj dd5 dd11 dd12 dd13 p0 p1 p2 p3 p4 hdp hd
      refine Opn.mk ?_
      dsimp only
      go_simp
      obtain ⟨hS, ⟨f0, f1, f2, f3, f4, f6, f7, f8, f9, f10⟩, hj, ⟨dd5, dd11, dd12, dd13⟩, ⟨p0, p1, p2, p3, p4⟩⟩ := HF.out
      exact hK.out (x20, x21, x22, x23, x24, x25, x26, .pointer (some ⟨bx, 1, none⟩), .string ⟨A.toArray⟩, x29, x30, x31, x32, x6) _ ⟨hS, ⟨(fun h => f0 (upd_ne h (by decide))), (fun h => f1 (upd_ne h (by decide))), (fun h => f2 (upd_ne h (by decide))), (fun h => f3 (upd_ne h (by decide))), (fun h => f4 (upd_ne h (by decide))), (fun h => f6 (upd_ne h (by decide))), (fun _ => rfl), (fun _ => rfl), (fun h => f9 (upd_ne h (by decide))), (fun h => f10 (upd_ne h (by decide)))⟩, j, hj, ⟨((upd_no (by decide)).trans dd5), ((upd_no (by decide)).trans dd11), ((upd_no (by decide)).trans dd12), ((upd_no (by decide)).trans dd13)⟩, ⟨p0, p1, p2, p3, p4⟩⟩
    · rintro d ⟨x20, x21, x22, x23, x24, x25, x26, x27, x28, x29, x30, x31, x32, x6⟩ w' hI hd hdp KQ hK
      dsimp only at hI
      obtain ⟨hS, ⟨f0, f1, f2, f3, f4, f6, f7, f8, f9, f10⟩, j, hj, ⟨dd5, dd11, dd12, dd13⟩, ⟨p0, p1, p2, p3, p4⟩⟩ := hI
      have HF : Hid _ := And.intro hS (And.intro (And.intro f0 (And.intro f1 (And.intro f2 (And.intro f3 (And.intro f4 (And.intro f6 (And.intro f7 (And.intro f8 (And.intro f9 f10))))))))) (And.intro hj (And.intro (And.intro dd5 (And.intro dd11 (And.intro dd12 dd13))) (And.intro p0 (And.intro p1 (And.intro p2 (And.intro p3 p4)))))))
      clear hS f0 f1 f2 f3 f4 f6 f7 f8 f9 f10 hj dd5 dd11 dd12 dd13 p0 p1 p2 p3 p4 hdp hd
      refine Opn.mk ?_
      dsimp only
      go_simp
      obtain ⟨hS, ⟨f0, f1, f2, f3, f4, f6, f7, f8, f9, f10⟩, hj, ⟨dd5, dd11, dd12, dd13⟩, ⟨p0, p1, p2, p3, p4⟩⟩ := HF.out
      exact hK.out (x20, x21, x22, x23, x24, x25, x26, x27, x28, .pointer (some ⟨bx, 3, none⟩), x30, x31, x32, x6) _ ⟨hS, ⟨(fun h => f0 (upd_ne h (by decide))), (fun h => f1 (upd_ne h (by decide))), (fun h => f2 (upd_ne h (by decide))), (fun h => f3 (upd_ne h (by decide))), (fun h => f4 (upd_ne h (by decide))), (fun h => f6 (upd_ne h (by decide))), (fun h => f7 (upd_ne h (by decide))), (fun h => f8 (upd_ne h (by decide))), (fun _ => rfl), (fun h => f10 (upd_ne h (by decide)))⟩, j, hj, ⟨((upd_no (by decide)).trans dd5), ((upd_no (by decide)).trans dd11), ((upd_no (by decide)).trans dd12), ((upd_no (by decide)).trans dd13)⟩, ⟨p0, p1, p2, p3, p4⟩⟩
    · rintro d ⟨x20, x21, x22, x23, x24, x25, x26, x27, x28, x29, x30, x31, x32, x6⟩ w' hI hd hdp KQ hK
      dsimp only at hI
      obtain ⟨hS, ⟨f0, f1, f2, f3, f4, f6, f7, f8, f9, f10⟩, j, hj, ⟨dd5, dd11, dd12, dd13⟩, ⟨p0, p1, p2, p3, p4⟩⟩ := hI
      obtain rfl := f9 (hdp 9 (by decide +kernel))
      have cc : w'.cell? ⟨bx, 3, none⟩ = some (.slice ua bs.length uc) := BxA.cell hS 3 _ rfl
      have HF : Hid _ := And.intro hS (And.intro (And.intro f0 (And.intro f1 (And.intro f2 (And.intro f3 (And.intro f4 (And.intro f6 (And.intro f7 (And.intro f8 (And.intro f9 f10))))))))) (And.intro hj (And.intro (And.intro dd5 (And.intro dd11 (And.intro dd12 dd13))) (And.intro p0 (And.intro p1 (And.intro p2 (And.intro p3 p4)))))))
      clear hS f0 f1 f2 f3 f4 f6 f7 f8 f9 f10 hj dd5 dd11 dd12 dd13 p0 p1 p2 p3 p4 hdp hd
      refine Opn.mk ?_
      dsimp only
      go_simp
      obtain ⟨hS, ⟨f0, f1, f2, f3, f4, f6, f7, f8, f9, f10⟩, hj, ⟨dd5, dd11, dd12, dd13⟩, ⟨p0, p1, p2, p3, p4⟩⟩ := HF.out
      exact hK.out (x20, x21, x22, x23, x24, x25, x26, x27, x28, .pointer (some ⟨bx, 3, none⟩), .slice ua bs.length uc, x31, x32, x6) _ ⟨hS, ⟨(fun h => f0 (upd_ne h (by decide))), (fun h => f1 (upd_ne h (by decide))), (fun h => f2 (upd_ne h (by decide))), (fun h => f3 (upd_ne h (by decide))), (fun h => f4 (upd_ne h (by decide))), (fun h => f6 (upd_ne h (by decide))), (fun h => f7 (upd_ne h (by decide))), (fun h => f8 (upd_ne h (by decide))), (fun _ => rfl), (fun _ => rfl)⟩, j, hj, ⟨((upd_no (by decide)).trans dd5), ((upd_no (by decide)).trans dd11), ((upd_no (by decide)).trans dd12), ((upd_no (by decide)).trans dd13)⟩, ⟨p0, p1, p2, p3, p4⟩⟩
    · rintro d ⟨x20, x21, x22, x23, x24, x25, x26, x27, x28, x29, x30, x31, x32, x6⟩ w' hI hd hdp KQ hK
      dsimp only at hI
      obtain ⟨hS, ⟨f0, f1, f2, f3, f4, f6, f7, f8, f9, f10⟩, j, hj, ⟨dd5, dd11, dd12, dd13⟩, ⟨p0, p1, p2, p3, p4⟩⟩ := hI
      obtain rfl := f6 (hdp 6 (by decide +kernel))
      obtain rfl := f8 (hdp 8 (by decide +kernel))
      obtain rfl := f10 (hdp 10 (by decide +kernel))
      obtain rfl := ph_eq (k := 0) dd11 hd dd5 (hdp 5 (by decide +kernel))
      have s := p1 rfl
      clear p0 p1 p2 p3 p4 hj
      obtain ⟨ea, s⟩ := s
      have kk := pq_rappend s A (.slice ua bs.length uc) bs HN.out.2.2.1 HOK.out.r HN.out.1 HN.out.2.2.2.2.2.1 HN.out.2.2.2.2.2.2.1 HN.out.2.2.2.2.2.2.2
      rw [HC2.out] at kk
      have HG : Hid _ := And.intro hS (And.intro ea s)
      clear hS s ea
      have HF : Hid _ := And.intro (And.intro f0 (And.intro f1 (And.intro f2 (And.intro f3 (And.intro f4 (And.intro f6 (And.intro f7 (And.intro f8 (And.intro f9 f10))))))))) (And.intro dd5 (And.intro dd11 (And.intro dd12 dd13)))
      clear f0 f1 f2 f3 f4 f6 f7 f8 f9 f10 dd5 dd11 dd12 dd13 hdp hd
      refine Opn.mk ?_
      dsimp only
      go_simp
      go_wp2_with (first | (go_at_call 31; with_reducible refine kk.mono ?_; rintro e5 w5 ⟨rfl, G5⟩))
      obtain ⟨hS, ea, s⟩ := HG.out
      obtain ⟨⟨f0, f1, f2, f3, f4, f6, f7, f8, f9, f10⟩, ⟨dd5, dd11, dd12, dd13⟩⟩ := HF.out
      refine hK.out (x20, x21, x22, x23, x24, x25, .pointer (some ⟨rp, 0, none⟩), x27, .string ⟨A.toArray⟩, x29, .slice ua bs.length uc, .int .i64 (c : Int), x32, x6) _ ⟨?sg, ⟨(fun h => f0 (upd_ne h (by decide))), (fun h => f1 (upd_ne h (by decide))), (fun h => f2 (upd_ne h (by decide))), (fun h => f3 (upd_ne h (by decide))), (fun h => f4 (upd_ne h (by decide))), (fun _ => rfl), (fun h => f7 (upd_ne h (by decide))), (fun _ => rfl), (fun h => f9 (upd_ne h (by decide))), (fun _ => rfl)⟩, 2, by decide, ⟨((upd_no (by decide)).trans (dd5.trans (by decide))), (by simp [upd]), ((upd_no (by decide)).trans (dd12.trans (by decide))), ((upd_no (by decide)).trans (dd13.trans (by decide)))⟩, ⟨(fun h => absurd h (by decide)), (fun h => absurd h (by decide)), (fun _ => ?new), (fun h => absurd h (by decide)), (fun h => absurd h (by decide))⟩⟩
      case sg => exact G5.box
      case new =>
        exact ⟨ea, rfl, G5⟩
    · rintro d ⟨x20, x21, x22, x23, x24, x25, x26, x27, x28, x29, x30, x31, x32, x6⟩ w' hI hd hdp KQ hK
      dsimp only at hI
      obtain ⟨hS, ⟨f0, f1, f2, f3, f4, f6, f7, f8, f9, f10⟩, j, hj, ⟨dd5, dd11, dd12, dd13⟩, ⟨p0, p1, p2, p3, p4⟩⟩ := hI
      obtain rfl := ph_eq (k := 1) dd12 hd dd11 (hdp 11 (by decide +kernel))
      have s := p2 rfl
      clear p0 p1 p2 p3 p4 hj
      obtain ⟨ea, eb, s⟩ := s
      subst ea
      subst eb
      have HG : Hid _ := And.intro hS s
      clear hS s
      have HF : Hid _ := And.intro (And.intro f0 (And.intro f1 (And.intro f2 (And.intro f3 (And.intro f4 (And.intro f6 (And.intro f7 (And.intro f8 (And.intro f9 f10))))))))) (And.intro dd5 (And.intro dd11 (And.intro dd12 dd13)))
      clear f0 f1 f2 f3 f4 f6 f7 f8 f9 f10 dd5 dd11 dd12 dd13 hdp hd
      refine Opn.mk ?_
      dsimp only
      go_simp
      obtain ⟨hS, s⟩ := HG.out
      obtain ⟨⟨f0, f1, f2, f3, f4, f6, f7, f8, f9, f10⟩, ⟨dd5, dd11, dd12, dd13⟩⟩ := HF.out
      refine hK.out (x20, x21, x22, x23, x24, .int .i64 (c : Int), x26, x27, x28, x29, x30, .int .i64 (c : Int), .bool true, x6) _ ⟨?sg, ⟨(fun h => f0 (upd_ne h (by decide))), (fun h => f1 (upd_ne h (by decide))), (fun h => f2 (upd_ne h (by decide))), (fun h => f3 (upd_ne h (by decide))), (fun h => f4 (upd_ne h (by decide))), (fun h => f6 (upd_ne h (by decide))), (fun h => f7 (upd_ne h (by decide))), (fun h => f8 (upd_ne h (by decide))), (fun h => f9 (upd_ne h (by decide))), (fun h => f10 (upd_ne h (by decide)))⟩, 3, by decide, ⟨((upd_no (by decide)).trans (dd5.trans (by decide))), ((upd_no (by decide)).trans (dd11.trans (by decide))), (by simp [upd]), ((upd_no (by decide)).trans (dd13.trans (by decide)))⟩, ⟨(fun h => absurd h (by decide)), (fun h => absurd h (by decide)), (fun h => absurd h (by decide)), (fun _ => ?new), (fun h => absurd h (by decide))⟩⟩
      case sg => exact hS
      case new =>
        exact ⟨rfl, s⟩
    · rintro d ⟨x20, x21, x22, x23, x24, x25, x26, x27, x28, x29, x30, x31, x32, x6⟩ w' hI hd hdp KQ hK
      dsimp only at hI
      obtain ⟨hS, ⟨f0, f1, f2, f3, f4, f6, f7, f8, f9, f10⟩, j, hj, ⟨dd5, dd11, dd12, dd13⟩, ⟨p0, p1, p2, p3, p4⟩⟩ := hI
      obtain rfl := ph_eq (k := 2) dd13 hd dd12 (hdp 12 (by decide +kernel))
      have s := p3 rfl
      clear p0 p1 p2 p3 p4 hj
      obtain ⟨ea, s⟩ := s
      subst ea
      have HG : Hid _ := And.intro hS s
      clear hS s
      have HF : Hid _ := And.intro (And.intro f0 (And.intro f1 (And.intro f2 (And.intro f3 (And.intro f4 (And.intro f6 (And.intro f7 (And.intro f8 (And.intro f9 f10))))))))) (And.intro dd5 (And.intro dd11 (And.intro dd12 dd13)))
      clear f0 f1 f2 f3 f4 f6 f7 f8 f9 f10 dd5 dd11 dd12 dd13 hdp hd
      refine Opn.mk ?_
      dsimp only
      go_simp
      obtain ⟨hS, s⟩ := HG.out
      obtain ⟨⟨f0, f1, f2, f3, f4, f6, f7, f8, f9, f10⟩, ⟨dd5, dd11, dd12, dd13⟩⟩ := HF.out
      refine hK.out (x20, x21, x22, x23, x24, x25, x26, x27, x28, x29, x30, x31, .bool true, .bool true) _ ⟨?sg, ⟨(fun h => f0 (upd_ne h (by decide))), (fun h => f1 (upd_ne h (by decide))), (fun h => f2 (upd_ne h (by decide))), (fun h => f3 (upd_ne h (by decide))), (fun h => f4 (upd_ne h (by decide))), (fun h => f6 (upd_ne h (by decide))), (fun h => f7 (upd_ne h (by decide))), (fun h => f8 (upd_ne h (by decide))), (fun h => f9 (upd_ne h (by decide))), (fun h => f10 (upd_ne h (by decide)))⟩, 4, by decide, ⟨((upd_no (by decide)).trans (dd5.trans (by decide))), ((upd_no (by decide)).trans (dd11.trans (by decide))), ((upd_no (by decide)).trans (dd12.trans (by decide))), (by simp [upd])⟩, ⟨(fun h => absurd h (by decide)), (fun h => absurd h (by decide)), (fun h => absurd h (by decide)), (fun h => absurd h (by decide)), (fun _ => ?new)⟩⟩
      case sg => exact hS
      case new =>
        exact ⟨rfl, s⟩
  case he20 =>
    rintro d ⟨x20, x21, x22, x23, x24, x25, x26, x27, x28, x29, x30, x31, x32, x6⟩ w' hall hI
    dsimp only at hI
    obtain ⟨hS, ⟨f0, f1, f2, f3, f4, f6, f7, f8, f9, f10⟩, j, hj, ⟨dd5, dd11, dd12, dd13⟩, ⟨p0, p1, p2, p3, p4⟩⟩ := hI
    obtain rfl := ph_end (k := 3) hj dd13 (hall 13 (by decide))
    have s := p4 rfl
    clear hall hj f0 f1 f2 f3 f4 f6 f7 f8 f9 f10 dd5 dd11 dd12 dd13 p0 p1 p2 p3 p4
    obtain ⟨ea, s⟩ := s
    subst ea
    have HG : Hid _ := s
    clear hS s
    dsimp only
    go_wp2_with fail
    go_ret
    exact ⟨rfl, ⟨_, _, Pq.pp (t0 := tr) HG.out (HN.out.2.1) (HR.out.append A bs).2 (rapp_pt tr A bs).2 HB.out.1 (by rw [(rapp_pt tr A bs).1]; exact HB.out.2.1) (nms_append HM.out A bs)⟩⟩
set_option maxRecDepth 100000 in
set_option maxHeartbeats 3200000 in
theorem both_2 (w0 w : World) (dp rp m : Nat) (sd : St) (tr : RSt) (K n : Int) (A B : Str) (ua : Option Addr) (uc : Nat) (bs : Str) (h : Pp w0 w dp rp m sd tr) (hm : m < 150) (ok : OpM.Ok w0 ⟨K, A, B, .slice ua bs.length uc, bs, n⟩) (hk : absN K % 12 = 2) :
    Calls Try.prog 13 #[.pointer (some ⟨dp, 0, none⟩), .pointer (some ⟨rp, 0, none⟩), .agg #[.int .i64 K, .string ⟨A.toArray⟩, .string ⟨B.toArray⟩, .slice ua bs.length uc, .int .i64 n]] w fun e w' => e = .returned (.bool true) ∧ Bth w0 w' dp rp m := by
  have mixed : Try.prog.follows .mixedOrders = true := by kernel_rfl
  obtain ⟨W, hW⟩ : ∃ W, W = w.alloc (.cells #[.int .i64 K, .string ⟨A.toArray⟩, .string ⟨B.toArray⟩, .slice ua bs.length uc, .int .i64 n] 31) := ⟨_, rfl⟩
  have hq := h.box hW
  have kAb := abs_any W K ok.k1 ok.k2
  have hab : (absN K : Int) % 12 = 2 := by omega
  have HR : Hid (Rel sd tr) := h.rel
  have HM : Hid (NmS sd) := h.nm
  have HB : Hid (tr.n ≤ m ∧ tr.part ≤ 9223372036854775807 ∧ m < 150) := ⟨h.n, h.part, hm⟩
  have HW : Hid (W = w.alloc (.cells #[.int .i64 K, .string ⟨A.toArray⟩, .string ⟨B.toArray⟩, .slice ua bs.length uc, .int .i64 n] 31)) := hW
  have hA : A.length ≤ maxLen := by have := ok.a; simp only at this; unfold maxLen; omega
  have hBl : B.length ≤ maxLen := by have := ok.b; simp only at this; unfold maxLen; omega
  have HOK : Hid (OpM.Ok w0 ⟨K, A, B, .slice ua bs.length uc, bs, n⟩) := ok
  have hN : m * 2097152 + bs.length + bs.length ≤ 140737488355328 := by have := ok.rl; simp only at this; omega
  have hN2 : m * 2097152 + bs.length + bs.length ≤ (m + 1) * 2097152 := by have := ok.rl; simp only at this; omega
  have hop : sd.ops < 1000000 := by have := h.n; have := h.rel.n; omega
  have hopt : tr.n < 1000000 := by have := h.n; omega
  have hpt := h.part
  have hS := h.rel.sp.srt
  have HQ : Hid (Pq w0 W dp rp (m * 2097152) sd tr w.heap.size 31 #[.int .i64 K, .string ⟨A.toArray⟩, .string ⟨B.toArray⟩, .slice ua bs.length uc, .int .i64 n]) := hq
  obtain ⟨bx, hbx⟩ : ∃ b, b = w.heap.size := ⟨_, rfl⟩
  rw [← hbx] at HQ
  have HN : Hid (m * 2097152 + bs.length + bs.length ≤ 140737488355328 ∧ m * 2097152 + bs.length + bs.length ≤ (m + 1) * 2097152 ∧ A.length ≤ maxLen ∧ B.length ≤ maxLen ∧ sd.ops < 1000000 ∧ tr.n < 1000000 ∧ tr.part ≤ 9223372036854775807 ∧ Srt tr.fs) := ⟨hN, hN2, hA, hBl, hop, hopt, hpt, hS⟩
  have HNN : Hid (m * 2097152 ≤ 140737488355328 ∧ m * 2097152 ≤ (m + 1) * 2097152) := by apply hide; omega
  have c0 := HQ.out.box.cell 0 _ rfl
  clear hq h ok hW hm hA hBl hN hN2 hop hopt hpt hS hk
  go_enter Try.func13, Try.ntmps13
  go_wp2_with fail
  rw [← HW.out]
  go_wp2_with fail
  refine kAb.mono ?_
  rintro e wq ⟨rfl, rfl⟩
  clear kAb
  go_upto_region 5 with fail
  rw [← hbx]
  try rw [hab]
  clear hbx hab
  obtain ⟨c, hc⟩ : ∃ c, c = (sd.append A bs).1 := ⟨_, rfl⟩
  have HC1 : Hid ((sd.append A bs).1 = c) := hc.symm
  have HC2 : Hid ((rapp tr A bs).1 = c) := by apply hide; rw [hc]; exact (HR.out.append A bs).1.symm
  have hSig0 : BxA wq.drew bx 31 #[.int .i64 K, .string ⟨A.toArray⟩, .string ⟨B.toArray⟩, .slice ua bs.length uc, .int .i64 n] := HQ.out.box
  have hS00 : Pq w0 wq.drew dp rp (m * 2097152) sd tr bx 31 #[.int .i64 K, .string ⟨A.toArray⟩, .string ⟨B.toArray⟩, .slice ua bs.length uc, .int .i64 n] := pq_drew HQ.out
  clear hc c0
  refine wp_region_invF (β := Value × Value × Value × Value × Value × Value × Value × Value × Value × Value × Value × Value × Value × Value) (fun a0 xq => ((((((((((((((a0.put (some 20) (xq.1)).put (some 21) (xq.2.1)).put (some 22) (xq.2.2.1)).put (some 23) (xq.2.2.2.1)).put (some 24) (xq.2.2.2.2.1)).put (some 25) (xq.2.2.2.2.2.1)).put (some 26) (xq.2.2.2.2.2.2.1)).put (some 27) (xq.2.2.2.2.2.2.2.1)).put (some 28) (xq.2.2.2.2.2.2.2.2.1)).put (some 29) (xq.2.2.2.2.2.2.2.2.2.1)).put (some 30) (xq.2.2.2.2.2.2.2.2.2.2.1)).put (some 31) (xq.2.2.2.2.2.2.2.2.2.2.2.1)).put (some 32) (xq.2.2.2.2.2.2.2.2.2.2.2.2.1)).put (some 6) (xq.2.2.2.2.2.2.2.2.2.2.2.2.2))) ?fr20 (fun xq d w' => (BxA w' bx 31 #[.int .i64 K, .string ⟨A.toArray⟩, .string ⟨B.toArray⟩, .slice ua bs.length uc, .int .i64 n]) ∧ ((d 0 = true → (xq.1) = .pointer (some ⟨dp, 0, none⟩)) ∧ (d 1 = true → (xq.2.1) = .pointer (some ⟨bx, 1, none⟩)) ∧ (d 2 = true → (xq.2.2.1) = .string ⟨A.toArray⟩) ∧ (d 3 = true → (xq.2.2.2.1) = .pointer (some ⟨bx, 3, none⟩)) ∧ (d 4 = true → (xq.2.2.2.2.1) = .slice ua bs.length uc) ∧ (d 6 = true → (xq.2.2.2.2.2.2.1) = .pointer (some ⟨rp, 0, none⟩)) ∧ (d 7 = true → (xq.2.2.2.2.2.2.2.1) = .pointer (some ⟨bx, 1, none⟩)) ∧ (d 8 = true → (xq.2.2.2.2.2.2.2.2.1) = .string ⟨A.toArray⟩) ∧ (d 9 = true → (xq.2.2.2.2.2.2.2.2.2.1) = .pointer (some ⟨bx, 3, none⟩)) ∧ (d 10 = true → (xq.2.2.2.2.2.2.2.2.2.2.1) = .slice ua bs.length uc)) ∧ ∃ j : Nat, j ≤ 4 ∧ (d 5 = decide (0 < j) ∧ d 11 = decide (1 < j) ∧ d 12 = decide (2 < j) ∧ d 13 = decide (3 < j)) ∧ ((j = 0 → Pq w0 w' dp rp (m * 2097152) (sd) (tr) bx 31 #[.int .i64 K, .string ⟨A.toArray⟩, .string ⟨B.toArray⟩, .slice ua bs.length uc, .int .i64 n]) ∧ (j = 1 → (xq.2.2.2.2.2.1) = .int .i64 (c : Int) ∧ Pq w0 w' dp rp (m * 2097152 + bs.length) ((sd.append A bs).2) (tr) bx 31 #[.int .i64 K, .string ⟨A.toArray⟩, .string ⟨B.toArray⟩, .slice ua bs.length uc, .int .i64 n]) ∧ (j = 2 → (xq.2.2.2.2.2.1) = .int .i64 (c : Int) ∧ (xq.2.2.2.2.2.2.2.2.2.2.2.1) = .int .i64 (c : Int) ∧ Pq w0 w' dp rp (m * 2097152 + bs.length + bs.length) ((sd.append A bs).2) ((rapp tr A bs).2) bx 31 #[.int .i64 K, .string ⟨A.toArray⟩, .string ⟨B.toArray⟩, .slice ua bs.length uc, .int .i64 n]) ∧ (j = 3 → (xq.2.2.2.2.2.2.2.2.2.2.2.2.1) = .bool true ∧ Pq w0 w' dp rp (m * 2097152 + bs.length + bs.length) ((sd.append A bs).2) ((rapp tr A bs).2) bx 31 #[.int .i64 K, .string ⟨A.toArray⟩, .string ⟨B.toArray⟩, .slice ua bs.length uc, .int .i64 n]) ∧ (j = 4 → (xq.2.2.2.2.2.2.2.2.2.2.2.2.2) = .bool true ∧ Pq w0 w' dp rp (m * 2097152 + bs.length + bs.length) ((sd.append A bs).2) ((rapp tr A bs).2) bx 31 #[.int .i64 K, .string ⟨A.toArray⟩, .string ⟨B.toArray⟩, .slice ua bs.length uc, .int .i64 n]))) ?lay20 mixed (by kernel_rfl) ?h020 ?hs20 ?he20
  case lay20 =>
    intro xq
    simp only [Act.put, List.setIfInBounds_toArray, List.set_cons_zero, List.set_cons_succ]
    rfl
  case h020 =>
    refine ⟨(undef, undef, undef, undef, undef, undef, undef, undef, undef, undef, undef, undef, undef, .bool false), rfl, ?sig20, ⟨(fun h => by cases h), (fun h => by cases h), (fun h => by cases h), (fun h => by cases h), (fun h => by cases h), (fun h => by cases h), (fun h => by cases h), (fun h => by cases h), (fun h => by cases h), (fun h => by cases h)⟩, 0, Nat.zero_le _, ⟨rfl, rfl, rfl, rfl⟩, ?S020, (fun h => by cases h), (fun h => by cases h), (fun h => by cases h), (fun h => by cases h)⟩
    case sig20 => exact hSig0
    case S020 => exact fun _ => hS00
  case hs20 =>
    refine ⟨?_, ?_, ?_, ?_, ?_, ?_, ?_, ?_, ?_, ?_, ?_, ?_, ?_, ?_, trivial⟩
    · rintro d ⟨x20, x21, x22, x23, x24, x25, x26, x27, x28, x29, x30, x31, x32, x6⟩ w' hI hd hdp KQ hK
      dsimp only at hI
      obtain ⟨hS, ⟨f0, f1, f2, f3, f4, f6, f7, f8, f9, f10⟩, j, hj, ⟨dd5, dd11, dd12, dd13⟩, ⟨p0, p1, p2, p3, p4⟩⟩ := hI
      have HF : Hid _ := And.intro hS (And.intro (And.intro f0 (And.intro f1 (And.intro f2 (And.intro f3 (And.intro f4 (And.intro f6 (And.intro f7 (And.intro f8 (And.intro f9 f10))))))))) (And.intro hj (And.intro (And.intro dd5 (And.intro dd11 (And.intro dd12 dd13))) (And.intro p0 (And.intro p1 (And.intro p2 (And.intro p3 p4)))))))
      clear hS f0 f1 f2 f3 f4 f6 f7 f8 f9 f10 hj dd5 dd11 dd12 dd13 p0 p1 p2 p3 p4 hdp hd
      refine Opn.mk ?_
      dsimp only
      go_simp
      obtain ⟨hS, ⟨f0, f1, f2, f3, f4, f6, f7, f8, f9, f10⟩, hj, ⟨dd5, dd11, dd12, dd13⟩, ⟨p0, p1, p2, p3, p4⟩⟩ := HF.out
      exact hK.out (.pointer (some ⟨dp, 0, none⟩), x21, x22, x23, x24, x25, x26, x27, x28, x29, x30, x31, x32, x6) _ ⟨hS, ⟨(fun _ => rfl), (fun h => f1 (upd_ne h (by decide))), (fun h => f2 (upd_ne h (by decide))), (fun h => f3 (upd_ne h (by decide))), (fun h => f4 (upd_ne h (by decide))), (fun h => f6 (upd_ne h (by decide))), (fun h => f7 (upd_ne h (by decide))), (fun h => f8 (upd_ne h (by decide))), (fun h => f9 (upd_ne h (by decide))), (fun h => f10 (upd_ne h (by decide)))⟩, j, hj, ⟨((upd_no (by decide)).trans dd5), ((upd_no (by decide)).trans dd11), ((upd_no (by decide)).trans dd12), ((upd_no (by decide)).trans dd13)⟩, ⟨p0, p1, p2, p3, p4⟩⟩
    · rintro d ⟨x20, x21, x22, x23, x24, x25, x26, x27, x28, x29, x30, x31, x32, x6⟩ w' hI hd hdp KQ hK
      dsimp only at hI
      obtain ⟨hS, ⟨f0, f1, f2, f3, f4, f6, f7, f8, f9, f10⟩, j, hj, ⟨dd5, dd11, dd12, dd13⟩, ⟨p0, p1, p2, p3, p4⟩⟩ := hI
      have HF : Hid _ := And.intro hS (And.intro (And.intro f0 (And.intro f1 (And.intro f2 (And.intro f3 (And.intro f4 (And.intro f6 (And.intro f7 (And.intro f8 (And.intro f9 f10))))))))) (And.intro hj (And.intro (And.intro dd5 (And.intro dd11 (And.intro dd12 dd13))) (And.intro p0 (And.intro p1 (And.intro p2 (And.intro p3 p4)))))))
      clear hS f0 f1 f2 f3 f4 f6 f7 f8 f9 f10 hj dd5 dd11 dd12 dd13 p0 p1 p2 p3 p4 hdp hd
      refine Opn.mk ?_
      dsimp only
      go_simp
      obtain ⟨hS, ⟨f0, f1, f2, f3, f4, f6, f7, f8, f9, f10⟩, hj, ⟨dd5, dd11, dd12, dd13⟩, ⟨p0, p1, p2, p3, p4⟩⟩ := HF.out
      exact hK.out (x20, .pointer (some ⟨bx, 1, none⟩), x22, x23, x24, x25, x26, x27, x28, x29, x30, x31, x32, x6) _ ⟨hS, ⟨(fun h => f0 (upd_ne h (by decide))), (fun _ => rfl), (fun h => f2 (upd_ne h (by decide))), (fun h => f3 (upd_ne h (by decide))), (fun h => f4 (upd_ne h (by decide))), (fun h => f6 (upd_ne h (by decide))), (fun h => f7 (upd_ne h (by decide))), (fun h => f8 (upd_ne h (by decide))), (fun h => f9 (upd_ne h (by decide))), (fun h => f10 (upd_ne h (by decide)))⟩, j, hj, ⟨((upd_no (by decide)).trans dd5), ((upd_no (by decide)).trans dd11), ((upd_no (by decide)).trans dd12), ((upd_no (by decide)).trans dd13)⟩, ⟨p0, p1, p2, p3, p4⟩⟩
    · rintro d ⟨x20, x21, x22, x23, x24, x25, x26, x27, x28, x29, x30, x31, x32, x6⟩ w' hI hd hdp KQ hK
      dsimp only at hI
      obtain ⟨hS, ⟨f0, f1, f2, f3, f4, f6, f7, f8, f9, f10⟩, j, hj, ⟨dd5, dd11, dd12, dd13⟩, ⟨p0, p1, p2, p3, p4⟩⟩ := hI
      obtain rfl := f1 (hdp 1 (by decide +kernel))
      have cc : w'.cell? ⟨bx, 1, none⟩ = some (.string ⟨A.toArray⟩) := BxA.cell hS 1 _ rfl
      have HF : Hid _ := And.intro hS (And.intro (And.intro f0 (And.intro f1 (And.intro f2 (And.intro f3 (And.intro f4 (And.intro f6 (And.intro f7 (And.intro f8 (And.intro f9 f10))))))))) (And.intro hj (And.intro (And.intro dd5 (And.intro dd11 (And.intro dd12 dd13))) (And.intro p0 (And.intro p1 (And.intro p2 (And.intro p3 p4)))))))
      clear hS f0 f1 f2 f3 f4 f6 f7 f8 f9 f10 hj dd5 dd11 dd12 dd13 p0 p1 p2 p3 p4 hdp hd
      refine Opn.mk ?_
      dsimp only
      go_simp
      obtain ⟨hS, ⟨f0, f1, f2, f3, f4, f6, f7, f8, f9, f10⟩, hj, ⟨dd5, dd11, dd12, dd13⟩, ⟨p0, p1, p2, p3, p4⟩⟩ := HF.out
      exact hK.out (x20, .pointer (some ⟨bx, 1, none⟩), .string ⟨A.toArray⟩, x23, x24, x25, x26, x27, x28, x29, x30, x31, x32, x6) _ ⟨hS, ⟨(fun h => f0 (upd_ne h (by decide))), (fun _ => rfl), (fun _ => rfl), (fun h => f3 (upd_ne h (by decide))), (fun h => f4 (upd_ne h (by decide))), (fun h => f6 (upd_ne h (by decide))), (fun h => f7 (upd_ne h (by decide))), (fun h => f8 (upd_ne h (by decide))), (fun h => f9 (upd_ne h (by decide))), (fun h => f10 (upd_ne h (by decide)))⟩, j, hj, ⟨((upd_no (by decide)).trans dd5), ((upd_no (by decide)).trans dd11), ((upd_no (by decide)).trans dd12), ((upd_no (by decide)).trans dd13)⟩, ⟨p0, p1, p2, p3, p4⟩⟩
    · rintro d ⟨x20, x21, x22, x23, x24, x25, x26, x27, x28, x29, x30, x31, x32, x6⟩ w' hI hd hdp KQ hK
      dsimp only at hI
      obtain ⟨hS, ⟨f0, f1, f2, f3, f4, f6, f7, f8, f9, f10⟩, j, hj, ⟨dd5, dd11, dd12, dd13⟩, ⟨p0, p1, p2, p3, p4⟩⟩ := hI
      have HF : Hid _ := And.intro hS (And.intro (And.intro f0 (And.intro f1 (And.intro f2 (And.intro f3 (And.intro f4 (And.intro f6 (And.intro f7 (And.intro f8 (And.intro f9 f10))))))))) (And.intro hj (And.intro (And.intro dd5 (And.intro dd11 (And.intro dd12 dd13))) (And.intro p0 (And.intro p1 (And.intro p2 (And.intro p3 p4)))))))
      clear hS f0 f1 f2 f3 f4 f6 f7 f8 f9 f10 hj dd5 dd11 dd12 dd13 p0 p1 p2 p3 p4 hdp hd
      refine Opn.mk ?_
      dsimp only
      go_simp
      obtain ⟨hS, ⟨f0, f1, f2, f3, f4, f6, f7, f8, f9, f10⟩, hj, ⟨dd5, dd11, dd12, dd13⟩, ⟨p0, p1, p2, p3, p4⟩⟩ := HF.out
      exact hK.out (x20, x21, x22, .pointer (some ⟨bx, 3, none⟩), x24, x25, x26, x27, x28, x29, x30, x31, x32, x6) _ ⟨hS, ⟨(fun h => f0 (upd_ne h (by decide))), (fun h => f1 (upd_ne h (by decide))), (fun h => f2 (upd_ne h (by decide))), (fun _ => rfl), (fun h => f4 (upd_ne h (by decide))), (fun h => f6 (upd_ne h (by decide))), (fun h => f7 (upd_ne h (by decide))), (fun h => f8 (upd_ne h (by decide))), (fun h => f9 (upd_ne h (by decide))), (fun h => f10 (upd_ne h (by decide)))⟩, j, hj, ⟨((upd_no (by decide)).trans dd5), ((upd_no (by decide)).trans dd11), ((upd_no (by decide)).trans dd12), ((upd_no (by decide)).trans dd13)⟩, ⟨p0, p1, p2, p3, p4⟩⟩
    · rintro d ⟨x20, x21, x22, x23, x24, x25, x26, x27, x28, x29, x30, x31, x32, x6⟩ w' hI hd hdp KQ hK
      dsimp only at hI
      obtain ⟨hS, ⟨f0, f1, f2, f3, f4, f6, f7, f8, f9, f10⟩, j, hj, ⟨dd5, dd11, dd12, dd13⟩, ⟨p0, p1, p2, p3, p4⟩⟩ := hI
      obtain rfl := f3 (hdp 3 (by decide +kernel))
      have cc : w'.cell? ⟨bx, 3, none⟩ = some (.slice ua bs.length uc) := BxA.cell hS 3 _ rfl
      have HF : Hid _ := And.intro hS (And.intro (And.intro f0 (And.intro f1 (And.intro f2 (And.intro f3 (And.intro f4 (And.intro f6 (And.intro f7 (And.intro f8 (And.intro f9 f10))))))))) (And.intro hj (And.intro (And.intro dd5 (And.intro dd11 (And.intro dd12 dd13))) (And.intro p0 (And.intro p1 (And.intro p2 (And.intro p3 p4)))))))
      clear hS f0 f1 f2 f3 f4 f6 f7 f8 f9 f10 hj dd5 dd11 dd12 dd13 p0 p1 p2 p3 p4 hdp hd
      refine Opn.mk ?_
      dsimp only
      go_simp
      obtain ⟨hS, ⟨f0, f1, f2, f3, f4, f6, f7, f8, f9, f10⟩, hj, ⟨dd5, dd11, dd12, dd13⟩, ⟨p0, p1, p2, p3, p4⟩⟩ := HF.out
      exact hK.out (x20, x21, x22, .pointer (some ⟨bx, 3, none⟩), .slice ua bs.length uc, x25, x26, x27, x28, x29, x30, x31, x32, x6) _ ⟨hS, ⟨(fun h => f0 (upd_ne h (by decide))), (fun h => f1 (upd_ne h (by decide))), (fun h => f2 (upd_ne h (by decide))), (fun _ => rfl), (fun _ => rfl), (fun h => f6 (upd_ne h (by decide))), (fun h => f7 (upd_ne h (by decide))), (fun h => f8 (upd_ne h (by decide))), (fun h => f9 (upd_ne h (by decide))), (fun h => f10 (upd_ne h (by decide)))⟩, j, hj, ⟨((upd_no (by decide)).trans dd5), ((upd_no (by decide)).trans dd11), ((upd_no (by decide)).trans dd12), ((upd_no (by decide)).trans dd13)⟩, ⟨p0, p1, p2, p3, p4⟩⟩
    · rintro d ⟨x20, x21, x22, x23, x24, x25, x26, x27, x28, x29, x30, x31, x32, x6⟩ w' hI hd hdp KQ hK
      dsimp only at hI
      obtain ⟨hS, ⟨f0, f1, f2, f3, f4, f6, f7, f8, f9, f10⟩, j, hj, ⟨dd5, dd11, dd12, dd13⟩, ⟨p0, p1, p2, p3, p4⟩⟩ := hI
      obtain rfl := f0 (hdp 0 (by decide +kernel))
      obtain rfl := f2 (hdp 2 (by decide +kernel))
      obtain rfl := f4 (hdp 4 (by decide +kernel))
      obtain rfl := ph_zero dd5 hd
      have s := p0 rfl
      clear p0 p1 p2 p3 p4 hj
      have kk := pq_append s A (.slice ua bs.length uc) bs HN.out.2.2.1 HOK.out.r (Nat.le_trans (Nat.le_add_right _ _) HN.out.1) HN.out.2.2.2.2.1
      rw [HC1.out] at kk
      have HG : Hid _ := And.intro hS s
      clear hS s
      have HF : Hid _ := And.intro (And.intro f0 (And.intro f1 (And.intro f2 (And.intro f3 (And.intro f4 (And.intro f6 (And.intro f7 (And.intro f8 (And.intro f9 f10))))))))) (And.intro dd5 (And.intro dd11 (And.intro dd12 dd13)))
      clear f0 f1 f2 f3 f4 f6 f7 f8 f9 f10 dd5 dd11 dd12 dd13 hdp hd
      refine Opn.mk ?_
      dsimp only
      go_simp
      go_wp2_with (first | (go_at_call 23; with_reducible refine kk.mono ?_; rintro e5 w5 ⟨rfl, G5⟩))
      obtain ⟨hS, s⟩ := HG.out
      obtain ⟨⟨f0, f1, f2, f3, f4, f6, f7, f8, f9, f10⟩, ⟨dd5, dd11, dd12, dd13⟩⟩ := HF.out
      refine hK.out (.pointer (some ⟨dp, 0, none⟩), x21, .string ⟨A.toArray⟩, x23, .slice ua bs.length uc, .int .i64 (c : Int), x26, x27, x28, x29, x30, x31, x32, x6) _ ⟨?sg, ⟨(fun _ => rfl), (fun h => f1 (upd_ne h (by decide))), (fun _ => rfl), (fun h => f3 (upd_ne h (by decide))), (fun _ => rfl), (fun h => f6 (upd_ne h (by decide))), (fun h => f7 (upd_ne h (by decide))), (fun h => f8 (upd_ne h (by decide))), (fun h => f9 (upd_ne h (by decide))), (fun h => f10 (upd_ne h (by decide)))⟩, 1, by decide, ⟨(by simp [upd]), ((upd_no (by decide)).trans (dd11.trans (by decide))), ((upd_no (by decide)).trans (dd12.trans (by decide))), ((upd_no (by decide)).trans (dd13.trans (by decide)))⟩, ⟨(fun h => absurd h (by decide)), (fun _ => ?new), (fun h => absurd h (by decide)), (fun h => absurd h (by decide)), (fun h => absurd h (by decide))⟩⟩
      case sg => exact G5.box
      case new =>
        exact ⟨rfl, G5⟩
    · rintro d ⟨x20, x21, x22, x23, x24, x25, x26, x27, x28, x29, x30, x31, x32, x6⟩ w' hI hd hdp KQ hK
      dsimp only at hI
      obtain ⟨hS, ⟨f0, f1, f2, f3, f4, f6, f7, f8, f9, f10⟩, j, hj, ⟨dd5, dd11, dd12, dd13⟩, ⟨p0, p1, p2, p3, p4⟩⟩ := hI
      have HF : Hid _ := And.intro hS (And.intro (And.intro f0 (And.intro f1 (And.intro f2 (And.intro f3 (And.intro f4 (And.intro f6 (And.intro f7 (And.intro f8 (And.intro f9 f10))))))))) (And.intro hj (And.intro (And.intro dd5 (And.intro dd11 (And.intro dd12 dd13))) (And.intro p0 (And.intro p1 (And.intro p2 (And.intro p3 p4)))))))
      clear hS f0 f1 f2 f3 f4 f6 f7 f8 f9 f10 hj dd5 dd11 dd12 dd13 p0 p1 p2 p3 p4 hdp hd
      refine Opn.mk ?_
      dsimp only
      go_simp
      obtain ⟨hS, ⟨f0, f1, f2, f3, f4, f6, f7, f8, f9, f10⟩, hj, ⟨dd5, dd11, dd12, dd13⟩, ⟨p0, p1, p2, p3, p4⟩⟩ := HF.out
      exact hK.out (x20, x21, x22, x23, x24, x25, .pointer (some ⟨rp, 0, none⟩), x27, x28, x29, x30, x31, x32, x6) _ ⟨hS, ⟨(fun h => f0 (upd_ne h (by decide))), (fun h => f1 (upd_ne h (by decide))), (fun h => f2 (upd_ne h (by decide))), (fun h => f3 (upd_ne h (by decide))), (fun h => f4 (upd_ne h (by decide))), (fun _ => rfl), (fun h => f7 (upd_ne h (by decide))), (fun h => f8 (upd_ne h (by decide))), (fun h => f9 (upd_ne h (by decide))), (fun h => f10 (upd_ne h (by decide)))⟩, j, hj, ⟨((upd_no (by decide)).trans dd5), ((upd_no (by decide)).trans dd11), ((upd_no (by decide)).trans dd12), ((upd_no (by decide)).trans dd13)⟩, ⟨p0, p1, p2, p3, p4⟩⟩
    · rintro d ⟨x20, x21, x22, x23, x24, x25, x26, x27, x28, x29, x30, x31, x32, x6⟩ w' hI hd hdp KQ hK
      dsimp only at hI
      obtain ⟨hS, ⟨f0, f1, f2, f3, f4, f6, f7, f8, f9, f10⟩, j, hj, ⟨dd5, dd11, dd12, dd13⟩, ⟨p0, p1, p2, p3, p4⟩⟩ := hI
      have HF : Hid _ := And.intro hS (And.intro (And.intro f0 (And.intro f1 (And.intro f2 (And.intro f3 (And.intro f4 (And.intro f6 (And.intro f7 (And.intro f8 (And.intro f9 f10))))))))) (And.intro hj (And.intro (And.intro dd5 (And.intro dd11 (And.intro dd12 dd13))) (And.intro p0 (And.intro p1 (And.intro p2 (And.intro p3 p4)))))))
      clear hS f0 f1 f2 f3 f4 f6 f7 f8 f9 f10 hj dd5 dd11 dd12 dd13 p0 p1 p2 p3 p4 hdp hd
      refine Opn.mk ?_
      dsimp only
      go_simp
      obtain ⟨hS, ⟨f0, f1, f2, f3, f4, f6, f7, f8, f9, f10⟩, hj, ⟨dd5, dd11, dd12, dd13⟩, ⟨p0, p1, p2, p3, p4⟩⟩ := HF.out
      exact hK.out (x20, x21, x22, x23, x24, x25, x26, .pointer (some ⟨bx, 1, none⟩), x28, x29, x30, x31, x32, x6) _ ⟨hS, ⟨(fun h => f0 (upd_ne h (by decide))), (fun h => f1 (upd_ne h (by decide))), (fun h => f2 (upd_ne h (by decide))), (fun h => f3 (upd_ne h (by decide))), (fun h => f4 (upd_ne h (by decide))), (fun h => f6 (upd_ne h (by decide))), (fun _ => rfl), (fun h => f8 (upd_ne h (by decide))), (fun h => f9 (upd_ne h (by decide))), (fun h => f10 (upd_ne h (by decide)))⟩, j, hj, ⟨((upd_no (by decide)).trans dd5), ((upd_no (by decide)).trans dd11), ((upd_no (by decide)).trans dd12), ((upd_no (by decide)).trans dd13)⟩, ⟨p0, p1, p2, p3, p4⟩⟩
    · rintro d ⟨x20, x21, x22, x23, x24, x25, x26, x27, x28, x29, x30, x31, x32, x6⟩ w' hI hd hdp KQ hK
      dsimp only at hI
      obtain ⟨hS, ⟨f0, f1, f2, f3, f4, f6, f7, f8, f9, f10⟩, j, hj, ⟨dd5, dd11, dd12, dd13⟩, ⟨p0, p1, p2, p3, p4⟩⟩ := hI
      obtain rfl := f7 (hdp 7 (by decide +kernel))
      have cc : w'.cell? ⟨bx, 1, none⟩ = some (.string ⟨A.toArray⟩) := BxA.cell hS 1 _ rfl
      have HF : Hid _ := And.intro hS (And.intro (And.intro f0 (And.intro f1 (And.intro f2 (And.intro f3 (And.intro f4 (And.intro f6 (And.intro f7 (And.intro f8 (And.intro f9 f10))))))))) (And.intro hj (And.intro (And.intro dd5 (And.intro dd11 (And.intro dd12 dd13))) (And.intro p0 (And.intro p1 (And.intro p2 (And.intro p3 p4)))))))
      clear hS f0 f1 f2 f3 f4 f6 f7 f8 f9 f10 hj dd5 dd11 dd12 dd13 p0 p1 p2 p3 p4 hdp hd
      refine Opn.mk ?_
      dsimp only
      go_simp
      obtain ⟨hS, ⟨f0, f1, f2, f3, f4, f6, f7, f8, f9, f10⟩, hj, ⟨dd5, dd11, dd12, dd13⟩, ⟨p0, p1, p2, p3, p4⟩⟩ := HF.out
      exact hK.out (x20, x21, x22, x23, x24, x25, x26, .pointer (some ⟨bx, 1, none⟩), .string ⟨A.toArray⟩, x29, x30, x31, x32, x6) _ ⟨hS, ⟨(fun h => f0 (upd_ne h (by decide))), (fun h => f1 (upd_ne h (by decide))), (fun h => f2 (upd_ne h (by decide))), (fun h => f3 (upd_ne h (by decide))), (fun h => f4 (upd_ne h (by decide))), (fun h => f6 (upd_ne h (by decide))), (fun _ => rfl), (fun _ => rfl), (fun h => f9 (upd_ne h (by decide))), (fun h => f10 (upd_ne h (by decide)))⟩, j, hj, ⟨((upd_no (by decide)).trans dd5), ((upd_no (by decide)).trans dd11), ((upd_no (by decide)).trans dd12), ((upd_no (by decide)).trans dd13)⟩, ⟨p0, p1, p2, p3, p4⟩⟩
    · rintro d ⟨x20, x21, x22, x23, x24, x25, x26, x27, x28, x29, x30, x31, x32, x6⟩ w' hI hd hdp KQ hK
      dsimp only at hI
      obtain ⟨hS, ⟨f0, f1, f2, f3, f4, f6, f7, f8, f9, f10⟩, j, hj, ⟨dd5, dd11, dd12, dd13⟩, ⟨p0, p1, p2, p3, p4⟩⟩ := hI
      have HF : Hid _ := And.intro hS (And.intro (And.intro f0 (And.intro f1 (And.intro f2 (And.intro f3 (And.intro f4 (And.intro f6 (And.intro f7 (And.intro f8 (And.intro f9 f10))))))))) (And.intro hj (And.intro (And.intro dd5 (And.intro dd11 (And.intro dd12 dd13))) (And.intro p0 (And.intro p1 (And.intro p2 (And.intro p3 p4)))))))
      clear hS f0 f1 f2 f3 f4 f6 f7 f8 f9 f10 hj dd5 dd11 dd12 dd13 p0 p1 p2 p3 p4 hdp hd
      refine Opn.mk ?_
      dsimp only
      go_simp
      obtain ⟨hS, ⟨f0, f1, f2, f3, f4, f6, f7, f8, f9, f10⟩, hj, ⟨dd5, dd11, dd12, dd13⟩, ⟨p0, p1, p2, p3, p4⟩⟩ := HF.out
      exact hK.out (x20, x21, x22, x23, x24, x25, x26, x27, x28, .pointer (some ⟨bx, 3, none⟩), x30, x31, x32, x6) _ ⟨hS, ⟨(fun h => f0 (upd_ne h (by decide))), (fun h => f1 (upd_ne h (by decide))), (fun h => f2 (upd_ne h (by decide))), (fun h => f3 (upd_ne h (by decide))), (fun h => f4 (upd_ne h (by decide))), (fun h => f6 (upd_ne h (by decide))), (fun h => f7 (upd_ne h (by decide))), (fun h => f8 (upd_ne h (by decide))), (fun _ => rfl), (fun h => f10 (upd_ne h (by decide)))⟩, j, hj, ⟨((upd_no (by decide)).trans dd5), ((upd_no (by decide)).trans dd11), ((upd_no (by decide)).trans dd12), ((upd_no (by decide)).trans dd13)⟩, ⟨p0, p1, p2, p3, p4⟩⟩
    · rintro d ⟨x20, x21, x22, x23, x24, x25, x26, x27, x28, x29, x30, x31, x32, x6⟩ w' hI hd hdp KQ hK
      dsimp only at hI
      obtain ⟨hS, ⟨f0, f1, f2, f3, f4, f6, f7, f8, f9, f10⟩, j, hj, ⟨dd5, dd11, dd12, dd13⟩, ⟨p0, p1, p2, p3, p4⟩⟩ := hI
      obtain rfl := f9 (hdp 9 (by decide +kernel))
      have cc : w'.cell? ⟨bx, 3, none⟩ = some (.slice ua bs.length uc) := BxA.cell hS 3 _ rfl
      have HF : Hid _ := And.intro hS (And.intro (And.intro f0 (And.intro f1 (And.intro f2 (And.intro f3 (And.intro f4 (And.intro f6 (And.intro f7 (And.intro f8 (And.intro f9 f10))))))))) (And.intro hj (And.intro (And.intro dd5 (And.intro dd11 (And.intro dd12 dd13))) (And.intro p0 (And.intro p1 (And.intro p2 (And.intro p3 p4)))))))
      clear hS f0 f1 f2 f3 f4 f6 f7 f8 f9 f10 hj dd5 dd11 dd12 dd13 p0 p1 p2 p3 p4 hdp hd
      refine Opn.mk ?_
      dsimp only
      go_simp
      obtain ⟨hS, ⟨f0, f1, f2, f3, f4, f6, f7, f8, f9, f10⟩, hj, ⟨dd5, dd11, dd12, dd13⟩, ⟨p0, p1, p2, p3, p4⟩⟩ := HF.out
      exact hK.out (x20, x21, x22, x23, x24, x25, x26, x27, x28, .pointer (some ⟨bx, 3, none⟩), .slice ua bs.length uc, x31, x32, x6) _ ⟨hS, ⟨(fun h => f0 (upd_ne h (by decide))), (fun h => f1 (upd_ne h (by decide))), (fun h => f2 (upd_ne h (by decide))), (fun h => f3 (upd_ne h (by decide))), (fun h => f4 (upd_ne h (by decide))), (fun h => f6 (upd_ne h (by decide))), (fun h => f7 (upd_ne h (by decide))), (fun h => f8 (upd_ne h (by decide))), (fun _ => rfl), (fun _ => rfl)⟩, j, hj, ⟨((upd_no (by decide)).trans dd5), ((upd_no (by decide)).trans dd11), ((upd_no (by decide)).trans dd12), ((upd_no (by decide)).trans dd13)⟩, ⟨p0, p1, p2, p3, p4⟩⟩
    · rintro d ⟨x20, x21, x22, x23, x24, x25, x26, x27, x28, x29, x30, x31, x32, x6⟩ w' hI hd hdp KQ hK
      dsimp only at hI
      obtain ⟨hS, ⟨f0, f1, f2, f3, f4, f6, f7, f8, f9, f10⟩, j, hj, ⟨dd5, dd11, dd12, dd13⟩, ⟨p0, p1, p2, p3, p4⟩⟩ := hI
      obtain rfl := f6 (hdp 6 (by decide +kernel))
      obtain rfl := f8 (hdp 8 (by decide +kernel))
      obtain rfl := f10 (hdp 10 (by decide +kernel))
      obtain rfl := ph_eq (k := 0) dd11 hd dd5 (hdp 5 (by decide +kernel))
      have s := p1 rfl
      clear p0 p1 p2 p3 p4 hj
      obtain ⟨ea, s⟩ := s
      have kk := pq_rappend s A (.slice ua bs.length uc) bs HN.out.2.2.1 HOK.out.r HN.out.1 HN.out.2.2.2.2.2.1 HN.out.2.2.2.2.2.2.1 HN.out.2.2.2.2.2.2.2
      rw [HC2.out] at kk
      have HG : Hid _ := And.intro hS (And.intro ea s)
      clear hS s ea
      have HF : Hid _ := And.intro (And.intro f0 (And.intro f1 (And.intro f2 (And.intro f3 (And.intro f4 (And.intro f6 (And.intro f7 (And.intro f8 (And.intro f9 f10))))))))) (And.intro dd5 (And.intro dd11 (And.intro dd12 dd13)))
      clear f0 f1 f2 f3 f4 f6 f7 f8 f9 f10 dd5 dd11 dd12 dd13 hdp hd
      refine Opn.mk ?_
      dsimp only
      go_simp
      go_wp2_with (first | (go_at_call 31; with_reducible refine kk.mono ?_; rintro e5 w5 ⟨rfl, G5⟩))
      obtain ⟨hS, ea, s⟩ := HG.out
      obtain ⟨⟨f0, f1, f2, f3, f4, f6, f7, f8, f9, f10⟩, ⟨dd5, dd11, dd12, dd13⟩⟩ := HF.out
      refine hK.out (x20, x21, x22, x23, x24, x25, .pointer (some ⟨rp, 0, none⟩), x27, .string ⟨A.toArray⟩, x29, .slice ua bs.length uc, .int .i64 (c : Int), x32, x6) _ ⟨?sg, ⟨(fun h => f0 (upd_ne h (by decide))), (fun h => f1 (upd_ne h (by decide))), (fun h => f2 (upd_ne h (by decide))), (fun h => f3 (upd_ne h (by decide))), (fun h => f4 (upd_ne h (by decide))), (fun _ => rfl), (fun h => f7 (upd_ne h (by decide))), (fun _ => rfl), (fun h => f9 (upd_ne h (by decide))), (fun _ => rfl)⟩, 2, by decide, ⟨((upd_no (by decide)).trans (dd5.trans (by decide))), (by simp [upd]), ((upd_no (by decide)).trans (dd12.trans (by decide))), ((upd_no (by decide)).trans (dd13.trans (by decide)))⟩, ⟨(fun h => absurd h (by decide)), (fun h => absurd h (by decide)), (fun _ => ?new), (fun h => absurd h (by decide)), (fun h => absurd h (by decide))⟩⟩
      case sg => exact G5.box
      case new =>
        exact ⟨ea, rfl, G5⟩
    · rintro d ⟨x20, x21, x22, x23, x24, x25, x26, x27, x28, x29, x30, x31, x32, x6⟩ w' hI hd hdp KQ hK
      dsimp only at hI
      obtain ⟨hS, ⟨f0, f1, f2, f3, f4, f6, f7, f8, f9, f10⟩, j, hj, ⟨dd5, dd11, dd12, dd13⟩, ⟨p0, p1, p2, p3, p4⟩⟩ := hI
      obtain rfl := ph_eq (k := 1) dd12 hd dd11 (hdp 11 (by decide +kernel))
      have s := p2 rfl
      clear p0 p1 p2 p3 p4 hj
      obtain ⟨ea, eb, s⟩ := s
      subst ea
      subst eb
      have HG : Hid _ := And.intro hS s
      clear hS s
      have HF : Hid _ := And.intro (And.intro f0 (And.intro f1 (And.intro f2 (And.intro f3 (And.intro f4 (And.intro f6 (And.intro f7 (And.intro f8 (And.intro f9 f10))))))))) (And.intro dd5 (And.intro dd11 (And.intro dd12 dd13)))
      clear f0 f1 f2 f3 f4 f6 f7 f8 f9 f10 dd5 dd11 dd12 dd13 hdp hd
      refine Opn.mk ?_
      dsimp only
      go_simp
      obtain ⟨hS, s⟩ := HG.out
      obtain ⟨⟨f0, f1, f2, f3, f4, f6, f7, f8, f9, f10⟩, ⟨dd5, dd11, dd12, dd13⟩⟩ := HF.out
      refine hK.out (x20, x21, x22, x23, x24, .int .i64 (c : Int), x26, x27, x28, x29, x30, .int .i64 (c : Int), .bool true, x6) _ ⟨?sg, ⟨(fun h => f0 (upd_ne h (by decide))), (fun h => f1 (upd_ne h (by decide))), (fun h => f2 (upd_ne h (by decide))), (fun h => f3 (upd_ne h (by decide))), (fun h => f4 (upd_ne h (by decide))), (fun h => f6 (upd_ne h (by decide))), (fun h => f7 (upd_ne h (by decide))), (fun h => f8 (upd_ne h (by decide))), (fun h => f9 (upd_ne h (by decide))), (fun h => f10 (upd_ne h (by decide)))⟩, 3, by decide, ⟨((upd_no (by decide)).trans (dd5.trans (by decide))), ((upd_no (by decide)).trans (dd11.trans (by decide))), (by simp [upd]), ((upd_no (by decide)).trans (dd13.trans (by decide)))⟩, ⟨(fun h => absurd h (by decide)), (fun h => absurd h (by decide)), (fun h => absurd h (by decide)), (fun _ => ?new), (fun h => absurd h (by decide))⟩⟩
      case sg => exact hS
      case new =>
        exact ⟨rfl, s⟩
    · rintro d ⟨x20, x21, x22, x23, x24, x25, x26, x27, x28, x29, x30, x31, x32, x6⟩ w' hI hd hdp KQ hK
      dsimp only at hI
      obtain ⟨hS, ⟨f0, f1, f2, f3, f4, f6, f7, f8, f9, f10⟩, j, hj, ⟨dd5, dd11, dd12, dd13⟩, ⟨p0, p1, p2, p3, p4⟩⟩ := hI
      obtain rfl := ph_eq (k := 2) dd13 hd dd12 (hdp 12 (by decide +kernel))
      have s := p3 rfl
      clear p0 p1 p2 p3 p4 hj
      obtain ⟨ea, s⟩ := s
      subst ea
      have HG : Hid _ := And.intro hS s
      clear hS s
      have HF : Hid _ := And.intro (And.intro f0 (And.intro f1 (And.intro f2 (And.intro f3 (And.intro f4 (And.intro f6 (And.intro f7 (And.intro f8 (And.intro f9 f10))))))))) (And.intro dd5 (And.intro dd11 (And.intro dd12 dd13)))
      clear f0 f1 f2 f3 f4 f6 f7 f8 f9 f10 dd5 dd11 dd12 dd13 hdp hd
      refine Opn.mk ?_
      dsimp only
      go_simp
      obtain ⟨hS, s⟩ := HG.out
      obtain ⟨⟨f0, f1, f2, f3, f4, f6, f7, f8, f9, f10⟩, ⟨dd5, dd11, dd12, dd13⟩⟩ := HF.out
      refine hK.out (x20, x21, x22, x23, x24, x25, x26, x27, x28, x29, x30, x31, .bool true, .bool true) _ ⟨?sg, ⟨(fun h => f0 (upd_ne h (by decide))), (fun h => f1 (upd_ne h (by decide))), (fun h => f2 (upd_ne h (by decide))), (fun h => f3 (upd_ne h (by decide))), (fun h => f4 (upd_ne h (by decide))), (fun h => f6 (upd_ne h (by decide))), (fun h => f7 (upd_ne h (by decide))), (fun h => f8 (upd_ne h (by decide))), (fun h => f9 (upd_ne h (by decide))), (fun h => f10 (upd_ne h (by decide)))⟩, 4, by decide, ⟨((upd_no (by decide)).trans (dd5.trans (by decide))), ((upd_no (by decide)).trans (dd11.trans (by decide))), ((upd_no (by decide)).trans (dd12.trans (by decide))), (by simp [upd])⟩, ⟨(fun h => absurd h (by decide)), (fun h => absurd h (by decide)), (fun h => absurd h (by decide)), (fun h => absurd h (by decide)), (fun _ => ?new)⟩⟩
      case sg => exact hS
      case new =>
        exact ⟨rfl, s⟩
  case he20 =>
    rintro d ⟨x20, x21, x22, x23, x24, x25, x26, x27, x28, x29, x30, x31, x32, x6⟩ w' hall hI
    dsimp only at hI
    obtain ⟨hS, ⟨f0, f1, f2, f3, f4, f6, f7, f8, f9, f10⟩, j, hj, ⟨dd5, dd11, dd12, dd13⟩, ⟨p0, p1, p2, p3, p4⟩⟩ := hI
    obtain rfl := ph_end (k := 3) hj dd13 (hall 13 (by decide))
    have s := p4 rfl
    clear hall hj f0 f1 f2 f3 f4 f6 f7 f8 f9 f10 dd5 dd11 dd12 dd13 p0 p1 p2 p3 p4
    obtain ⟨ea, s⟩ := s
    subst ea
    have HG : Hid _ := s
    clear hS s
    dsimp only
    go_wp2_with fail
    go_ret
    exact ⟨rfl, ⟨_, _, Pq.pp (t0 := tr) HG.out (HN.out.2.1) (HR.out.append A bs).2 (rapp_pt tr A bs).2 HB.out.1 (by rw [(rapp_pt tr A bs).1]; exact HB.out.2.1) (nms_append HM.out A bs)⟩⟩
set_option maxRecDepth 100000 in
set_option maxHeartbeats 3200000 in
theorem both_3 (w0 w : World) (dp rp m : Nat) (sd : St) (tr : RSt) (K n : Int) (A B : Str) (ua : Option Addr) (uc : Nat) (bs : Str) (h : Pp w0 w dp rp m sd tr) (hm : m < 150) (ok : OpM.Ok w0 ⟨K, A, B, .slice ua bs.length uc, bs, n⟩) (hk : absN K % 12 = 3) :
    Calls Try.prog 13 #[.pointer (some ⟨dp, 0, none⟩), .pointer (some ⟨rp, 0, none⟩), .agg #[.int .i64 K, .string ⟨A.toArray⟩, .string ⟨B.toArray⟩, .slice ua bs.length uc, .int .i64 n]] w fun e w' => e = .returned (.bool true) ∧ Bth w0 w' dp rp m := by
  have mixed : Try.prog.follows .mixedOrders = true := by kernel_rfl
  obtain ⟨W, hW⟩ : ∃ W, W = w.alloc (.cells #[.int .i64 K, .string ⟨A.toArray⟩, .string ⟨B.toArray⟩, .slice ua bs.length uc, .int .i64 n] 31) := ⟨_, rfl⟩
  have hq := h.box hW
  have kAb := abs_any W K ok.k1 ok.k2
  have hab : (absN K : Int) % 12 = 3 := by omega
  have HR : Hid (Rel sd tr) := h.rel
  have HM : Hid (NmS sd) := h.nm
  have HB : Hid (tr.n ≤ m ∧ tr.part ≤ 9223372036854775807 ∧ m < 150) := ⟨h.n, h.part, hm⟩
  have HW : Hid (W = w.alloc (.cells #[.int .i64 K, .string ⟨A.toArray⟩, .string ⟨B.toArray⟩, .slice ua bs.length uc, .int .i64 n] 31)) := hW
  have hA : A.length ≤ maxLen := by have := ok.a; simp only at this; unfold maxLen; omega
  have hBl : B.length ≤ maxLen := by have := ok.b; simp only at this; unfold maxLen; omega
  have HOK : Hid (OpM.Ok w0 ⟨K, A, B, .slice ua bs.length uc, bs, n⟩) := ok
  have hN : m * 2097152 + bs.length + bs.length ≤ 140737488355328 := by have := ok.rl; simp only at this; omega
  have hN2 : m * 2097152 + bs.length + bs.length ≤ (m + 1) * 2097152 := by have := ok.rl; simp only at this; omega
  have hop : sd.ops < 1000000 := by have := h.n; have := h.rel.n; omega
  have hopt : tr.n < 1000000 := by have := h.n; omega
  have hpt := h.part
  have hS := h.rel.sp.srt
  have HQ : Hid (Pq w0 W dp rp (m * 2097152) sd tr w.heap.size 31 #[.int .i64 K, .string ⟨A.toArray⟩, .string ⟨B.toArray⟩, .slice ua bs.length uc, .int .i64 n]) := hq
  obtain ⟨bx, hbx⟩ : ∃ b, b = w.heap.size := ⟨_, rfl⟩
  rw [← hbx] at HQ
  have HN : Hid (m * 2097152 + bs.length + bs.length ≤ 140737488355328 ∧ m * 2097152 + bs.length + bs.length ≤ (m + 1) * 2097152 ∧ A.length ≤ maxLen ∧ B.length ≤ maxLen ∧ sd.ops < 1000000 ∧ tr.n < 1000000 ∧ tr.part ≤ 9223372036854775807 ∧ Srt tr.fs) := ⟨hN, hN2, hA, hBl, hop, hopt, hpt, hS⟩
  have HNN : Hid (m * 2097152 ≤ 140737488355328 ∧ m * 2097152 ≤ (m + 1) * 2097152) := by apply hide; omega
  have c0 := HQ.out.box.cell 0 _ rfl
  clear hq h ok hW hm hA hBl hN hN2 hop hopt hpt hS hk
  go_enter Try.func13, Try.ntmps13
  go_wp2_with fail
  rw [← HW.out]
  go_wp2_with fail
  refine kAb.mono ?_
  rintro e wq ⟨rfl, rfl⟩
  clear kAb
  go_upto_region 8 with fail
  rw [← hbx]
  try rw [hab]
  clear hbx hab
  obtain ⟨c, hc⟩ : ∃ c, c = (sd.sync A).1 := ⟨_, rfl⟩
  have HC1 : Hid ((sd.sync A).1 = c) := hc.symm
  have HC2 : Hid ((rsyn tr A).1 = c) := by apply hide; rw [hc]; exact (HR.out.sync A).1.symm
  have hSig0 : BxA wq.drew bx 31 #[.int .i64 K, .string ⟨A.toArray⟩, .string ⟨B.toArray⟩, .slice ua bs.length uc, .int .i64 n] := HQ.out.box
  have hS00 : Pq w0 wq.drew dp rp (m * 2097152) sd tr bx 31 #[.int .i64 K, .string ⟨A.toArray⟩, .string ⟨B.toArray⟩, .slice ua bs.length uc, .int .i64 n] := pq_drew HQ.out
  clear hc c0
  refine wp_region_invF (β := Value × Value × Value × Value × Value × Value × Value × Value × Value × Value) (fun a0 xq => ((((((((((a0.put (some 36) (xq.1)).put (some 37) (xq.2.1)).put (some 38) (xq.2.2.1)).put (some 39) (xq.2.2.2.1)).put (some 40) (xq.2.2.2.2.1)).put (some 41) (xq.2.2.2.2.2.1)).put (some 42) (xq.2.2.2.2.2.2.1)).put (some 43) (xq.2.2.2.2.2.2.2.1)).put (some 44) (xq.2.2.2.2.2.2.2.2.1)).put (some 6) (xq.2.2.2.2.2.2.2.2.2))) ?fr36 (fun xq d w' => (BxA w' bx 31 #[.int .i64 K, .string ⟨A.toArray⟩, .string ⟨B.toArray⟩, .slice ua bs.length uc, .int .i64 n]) ∧ ((d 0 = true → (xq.1) = .pointer (some ⟨dp, 0, none⟩)) ∧ (d 1 = true → (xq.2.1) = .pointer (some ⟨bx, 1, none⟩)) ∧ (d 2 = true → (xq.2.2.1) = .string ⟨A.toArray⟩) ∧ (d 4 = true → (xq.2.2.2.2.1) = .pointer (some ⟨rp, 0, none⟩)) ∧ (d 5 = true → (xq.2.2.2.2.2.1) = .pointer (some ⟨bx, 1, none⟩)) ∧ (d 6 = true → (xq.2.2.2.2.2.2.1) = .string ⟨A.toArray⟩)) ∧ ∃ j : Nat, j ≤ 4 ∧ (d 3 = decide (0 < j) ∧ d 7 = decide (1 < j) ∧ d 8 = decide (2 < j) ∧ d 9 = decide (3 < j)) ∧ ((j = 0 → Pq w0 w' dp rp (m * 2097152) (sd) (tr) bx 31 #[.int .i64 K, .string ⟨A.toArray⟩, .string ⟨B.toArray⟩, .slice ua bs.length uc, .int .i64 n]) ∧ (j = 1 → (xq.2.2.2.1) = .int .i64 (c : Int) ∧ Pq w0 w' dp rp (m * 2097152) ((sd.sync A).2) (tr) bx 31 #[.int .i64 K, .string ⟨A.toArray⟩, .string ⟨B.toArray⟩, .slice ua bs.length uc, .int .i64 n]) ∧ (j = 2 → (xq.2.2.2.1) = .int .i64 (c : Int) ∧ (xq.2.2.2.2.2.2.2.1) = .int .i64 (c : Int) ∧ Pq w0 w' dp rp (m * 2097152) ((sd.sync A).2) ((rsyn tr A).2) bx 31 #[.int .i64 K, .string ⟨A.toArray⟩, .string ⟨B.toArray⟩, .slice ua bs.length uc, .int .i64 n]) ∧ (j = 3 → (xq.2.2.2.2.2.2.2.2.1) = .bool true ∧ Pq w0 w' dp rp (m * 2097152) ((sd.sync A).2) ((rsyn tr A).2) bx 31 #[.int .i64 K, .string ⟨A.toArray⟩, .string ⟨B.toArray⟩, .slice ua bs.length uc, .int .i64 n]) ∧ (j = 4 → (xq.2.2.2.2.2.2.2.2.2) = .bool true ∧ Pq w0 w' dp rp (m * 2097152) ((sd.sync A).2) ((rsyn tr A).2) bx 31 #[.int .i64 K, .string ⟨A.toArray⟩, .string ⟨B.toArray⟩, .slice ua bs.length uc, .int .i64 n]))) ?lay36 mixed (by kernel_rfl) ?h036 ?hs36 ?he36
  case lay36 =>
    intro xq
    simp only [Act.put, List.setIfInBounds_toArray, List.set_cons_zero, List.set_cons_succ]
    rfl
  case h036 =>
    refine ⟨(undef, undef, undef, undef, undef, undef, undef, undef, undef, .bool false), rfl, ?sig36, ⟨(fun h => by cases h), (fun h => by cases h), (fun h => by cases h), (fun h => by cases h), (fun h => by cases h), (fun h => by cases h)⟩, 0, Nat.zero_le _, ⟨rfl, rfl, rfl, rfl⟩, ?S036, (fun h => by cases h), (fun h => by cases h), (fun h => by cases h), (fun h => by cases h)⟩
    case sig36 => exact hSig0
    case S036 => exact fun _ => hS00
  case hs36 =>
    refine ⟨?_, ?_, ?_, ?_, ?_, ?_, ?_, ?_, ?_, ?_, trivial⟩
    · rintro d ⟨x36, x37, x38, x39, x40, x41, x42, x43, x44, x6⟩ w' hI hd hdp KQ hK
      dsimp only at hI
      obtain ⟨hS, ⟨f0, f1, f2, f4, f5, f6⟩, j, hj, ⟨dd3, dd7, dd8, dd9⟩, ⟨p0, p1, p2, p3, p4⟩⟩ := hI
      have HF : Hid _ := And.intro hS (And.intro (And.intro f0 (And.intro f1 (And.intro f2 (And.intro f4 (And.intro f5 f6))))) (And.intro hj (And.intro (And.intro dd3 (And.intro dd7 (And.intro dd8 dd9))) (And.intro p0 (And.intro p1 (And.intro p2 (And.intro p3 p4)))))))
      clear hS f0 f1 f2 f4 f5 f6 hj dd3 dd7 dd8 dd9 p0 p1 p2 p3 p4 hdp hd
      refine Opn.mk ?_
      dsimp only
      go_simp
      obtain ⟨hS, ⟨f0, f1, f2, f4, f5, f6⟩, hj, ⟨dd3, dd7, dd8, dd9⟩, ⟨p0, p1, p2, p3, p4⟩⟩ := HF.out
      exact hK.out (.pointer (some ⟨dp, 0, none⟩), x37, x38, x39, x40, x41, x42, x43, x44, x6) _ ⟨hS, ⟨(fun _ => rfl), (fun h => f1 (upd_ne h (by decide))), (fun h => f2 (upd_ne h (by decide))), (fun h => f4 (upd_ne h (by decide))), (fun h => f5 (upd_ne h (by decide))), (fun h => f6 (upd_ne h (by decide)))⟩, j, hj, ⟨((upd_no (by decide)).trans dd3), ((upd_no (by decide)).trans dd7), ((upd_no (by decide)).trans dd8), ((upd_no (by decide)).trans dd9)⟩, ⟨p0, p1, p2, p3, p4⟩⟩
    · rintro d ⟨x36, x37, x38, x39, x40, x41, x42, x43, x44, x6⟩ w' hI hd hdp KQ hK
      dsimp only at hI
      obtain ⟨hS, ⟨f0, f1, f2, f4, f5, f6⟩, j, hj, ⟨dd3, dd7, dd8, dd9⟩, ⟨p0, p1, p2, p3, p4⟩⟩ := hI
      have HF : Hid _ := And.intro hS (And.intro (And.intro f0 (And.intro f1 (And.intro f2 (And.intro f4 (And.intro f5 f6))))) (And.intro hj (And.intro (And.intro dd3 (And.intro dd7 (And.intro dd8 dd9))) (And.intro p0 (And.intro p1 (And.intro p2 (And.intro p3 p4)))))))
      clear hS f0 f1 f2 f4 f5 f6 hj dd3 dd7 dd8 dd9 p0 p1 p2 p3 p4 hdp hd
      refine Opn.mk ?_
      dsimp only
      go_simp
      obtain ⟨hS, ⟨f0, f1, f2, f4, f5, f6⟩, hj, ⟨dd3, dd7, dd8, dd9⟩, ⟨p0, p1, p2, p3, p4⟩⟩ := HF.out
      exact hK.out (x36, .pointer (some ⟨bx, 1, none⟩), x38, x39, x40, x41, x42, x43, x44, x6) _ ⟨hS, ⟨(fun h => f0 (upd_ne h (by decide))), (fun _ => rfl), (fun h => f2 (upd_ne h (by decide))), (fun h => f4 (upd_ne h (by decide))), (fun h => f5 (upd_ne h (by decide))), (fun h => f6 (upd_ne h (by decide)))⟩, j, hj, ⟨((upd_no (by decide)).trans dd3), ((upd_no (by decide)).trans dd7), ((upd_no (by decide)).trans dd8), ((upd_no (by decide)).trans dd9)⟩, ⟨p0, p1, p2, p3, p4⟩⟩
    · rintro d ⟨x36, x37, x38, x39, x40, x41, x42, x43, x44, x6⟩ w' hI hd hdp KQ hK
      dsimp only at hI
      obtain ⟨hS, ⟨f0, f1, f2, f4, f5, f6⟩, j, hj, ⟨dd3, dd7, dd8, dd9⟩, ⟨p0, p1, p2, p3, p4⟩⟩ := hI
      obtain rfl := f1 (hdp 1 (by decide +kernel))
      have cc : w'.cell? ⟨bx, 1, none⟩ = some (.string ⟨A.toArray⟩) := BxA.cell hS 1 _ rfl
      have HF : Hid _ := And.intro hS (And.intro (And.intro f0 (And.intro f1 (And.intro f2 (And.intro f4 (And.intro f5 f6))))) (And.intro hj (And.intro (And.intro dd3 (And.intro dd7 (And.intro dd8 dd9))) (And.intro p0 (And.intro p1 (And.intro p2 (And.intro p3 p4)))))))
      clear hS f0 f1 f2 f4 f5 f6 hj dd3 dd7 dd8 dd9 p0 p1 p2 p3 p4 hdp hd
      refine Opn.mk ?_
      dsimp only
      go_simp
      obtain ⟨hS, ⟨f0, f1, f2, f4, f5, f6⟩, hj, ⟨dd3, dd7, dd8, dd9⟩, ⟨p0, p1, p2, p3, p4⟩⟩ := HF.out
      exact hK.out (x36, .pointer (some ⟨bx, 1, none⟩), .string ⟨A.toArray⟩, x39, x40, x41, x42, x43, x44, x6) _ ⟨hS, ⟨(fun h => f0 (upd_ne h (by decide))), (fun _ => rfl), (fun _ => rfl), (fun h => f4 (upd_ne h (by decide))), (fun h => f5 (upd_ne h (by decide))), (fun h => f6 (upd_ne h (by decide)))⟩, j, hj, ⟨((upd_no (by decide)).trans dd3), ((upd_no (by decide)).trans dd7), ((upd_no (by decide)).trans dd8), ((upd_no (by decide)).trans dd9)⟩, ⟨p0, p1, p2, p3, p4⟩⟩
    · rintro d ⟨x36, x37, x38, x39, x40, x41, x42, x43, x44, x6⟩ w' hI hd hdp KQ hK
      dsimp only at hI
      obtain ⟨hS, ⟨f0, f1, f2, f4, f5, f6⟩, j, hj, ⟨dd3, dd7, dd8, dd9⟩, ⟨p0, p1, p2, p3, p4⟩⟩ := hI
      obtain rfl := f0 (hdp 0 (by decide +kernel))
      obtain rfl := f2 (hdp 2 (by decide +kernel))
      obtain rfl := ph_zero dd3 hd
      have s := p0 rfl
      clear p0 p1 p2 p3 p4 hj
      have kk := pq_sync s A HN.out.2.2.1 HN.out.2.2.2.2.1
      rw [HC1.out] at kk
      have HG : Hid _ := And.intro hS s
      clear hS s
      have HF : Hid _ := And.intro (And.intro f0 (And.intro f1 (And.intro f2 (And.intro f4 (And.intro f5 f6))))) (And.intro dd3 (And.intro dd7 (And.intro dd8 dd9)))
      clear f0 f1 f2 f4 f5 f6 dd3 dd7 dd8 dd9 hdp hd
      refine Opn.mk ?_
      dsimp only
      go_simp
      go_wp2_with (first | (go_at_call 24; with_reducible refine kk.mono ?_; rintro e5 w5 ⟨rfl, G5⟩))
      obtain ⟨hS, s⟩ := HG.out
      obtain ⟨⟨f0, f1, f2, f4, f5, f6⟩, ⟨dd3, dd7, dd8, dd9⟩⟩ := HF.out
      refine hK.out (.pointer (some ⟨dp, 0, none⟩), x37, .string ⟨A.toArray⟩, .int .i64 (c : Int), x40, x41, x42, x43, x44, x6) _ ⟨?sg, ⟨(fun _ => rfl), (fun h => f1 (upd_ne h (by decide))), (fun _ => rfl), (fun h => f4 (upd_ne h (by decide))), (fun h => f5 (upd_ne h (by decide))), (fun h => f6 (upd_ne h (by decide)))⟩, 1, by decide, ⟨(by simp [upd]), ((upd_no (by decide)).trans (dd7.trans (by decide))), ((upd_no (by decide)).trans (dd8.trans (by decide))), ((upd_no (by decide)).trans (dd9.trans (by decide)))⟩, ⟨(fun h => absurd h (by decide)), (fun _ => ?new), (fun h => absurd h (by decide)), (fun h => absurd h (by decide)), (fun h => absurd h (by decide))⟩⟩
      case sg => exact G5.box
      case new =>
        exact ⟨rfl, G5⟩
    · rintro d ⟨x36, x37, x38, x39, x40, x41, x42, x43, x44, x6⟩ w' hI hd hdp KQ hK
      dsimp only at hI
      obtain ⟨hS, ⟨f0, f1, f2, f4, f5, f6⟩, j, hj, ⟨dd3, dd7, dd8, dd9⟩, ⟨p0, p1, p2, p3, p4⟩⟩ := hI
      have HF : Hid _ := And.intro hS (And.intro (And.intro f0 (And.intro f1 (And.intro f2 (And.intro f4 (And.intro f5 f6))))) (And.intro hj (And.intro (And.intro dd3 (And.intro dd7 (And.intro dd8 dd9))) (And.intro p0 (And.intro p1 (And.intro p2 (And.intro p3 p4)))))))
      clear hS f0 f1 f2 f4 f5 f6 hj dd3 dd7 dd8 dd9 p0 p1 p2 p3 p4 hdp hd
      refine Opn.mk ?_
      dsimp only
      go_simp
      obtain ⟨hS, ⟨f0, f1, f2, f4, f5, f6⟩, hj, ⟨dd3, dd7, dd8, dd9⟩, ⟨p0, p1, p2, p3, p4⟩⟩ := HF.out
      exact hK.out (x36, x37, x38, x39, .pointer (some ⟨rp, 0, none⟩), x41, x42, x43, x44, x6) _ ⟨hS, ⟨(fun h => f0 (upd_ne h (by decide))), (fun h => f1 (upd_ne h (by decide))), (fun h => f2 (upd_ne h (by decide))), (fun _ => rfl), (fun h => f5 (upd_ne h (by decide))), (fun h => f6 (upd_ne h (by decide)))⟩, j, hj, ⟨((upd_no (by decide)).trans dd3), ((upd_no (by decide)).trans dd7), ((upd_no (by decide)).trans dd8), ((upd_no (by decide)).trans dd9)⟩, ⟨p0, p1, p2, p3, p4⟩⟩
    · rintro d ⟨x36, x37, x38, x39, x40, x41, x42, x43, x44, x6⟩ w' hI hd hdp KQ hK
      dsimp only at hI
      obtain ⟨hS, ⟨f0, f1, f2, f4, f5, f6⟩, j, hj, ⟨dd3, dd7, dd8, dd9⟩, ⟨p0, p1, p2, p3, p4⟩⟩ := hI
      have HF : Hid _ := And.intro hS (And.intro (And.intro f0 (And.intro f1 (And.intro f2 (And.intro f4 (And.intro f5 f6))))) (And.intro hj (And.intro (And.intro dd3 (And.intro dd7 (And.intro dd8 dd9))) (And.intro p0 (And.intro p1 (And.intro p2 (And.intro p3 p4)))))))
      clear hS f0 f1 f2 f4 f5 f6 hj dd3 dd7 dd8 dd9 p0 p1 p2 p3 p4 hdp hd
      refine Opn.mk ?_
      dsimp only
      go_simp
      obtain ⟨hS, ⟨f0, f1, f2, f4, f5, f6⟩, hj, ⟨dd3, dd7, dd8, dd9⟩, ⟨p0, p1, p2, p3, p4⟩⟩ := HF.out
      exact hK.out (x36, x37, x38, x39, x40, .pointer (some ⟨bx, 1, none⟩), x42, x43, x44, x6) _ ⟨hS, ⟨(fun h => f0 (upd_ne h (by decide))), (fun h => f1 (upd_ne h (by decide))), (fun h => f2 (upd_ne h (by decide))), (fun h => f4 (upd_ne h (by decide))), (fun _ => rfl), (fun h => f6 (upd_ne h (by decide)))⟩, j, hj, ⟨((upd_no (by decide)).trans dd3), ((upd_no (by decide)).trans dd7), ((upd_no (by decide)).trans dd8), ((upd_no (by decide)).trans dd9)⟩, ⟨p0, p1, p2, p3, p4⟩⟩
    · rintro d ⟨x36, x37, x38, x39, x40, x41, x42, x43, x44, x6⟩ w' hI hd hdp KQ hK
      dsimp only at hI
      obtain ⟨hS, ⟨f0, f1, f2, f4, f5, f6⟩, j, hj, ⟨dd3, dd7, dd8, dd9⟩, ⟨p0, p1, p2, p3, p4⟩⟩ := hI
      obtain rfl := f5 (hdp 5 (by decide +kernel))
      have cc : w'.cell? ⟨bx, 1, none⟩ = some (.string ⟨A.toArray⟩) := BxA.cell hS 1 _ rfl
      have HF : Hid _ := And.intro hS (And.intro (And.intro f0 (And.intro f1 (And.intro f2 (And.intro f4 (And.intro f5 f6))))) (And.intro hj (And.intro (And.intro dd3 (And.intro dd7 (And.intro dd8 dd9))) (And.intro p0 (And.intro p1 (And.intro p2 (And.intro p3 p4)))))))
      clear hS f0 f1 f2 f4 f5 f6 hj dd3 dd7 dd8 dd9 p0 p1 p2 p3 p4 hdp hd
      refine Opn.mk ?_
      dsimp only
      go_simp
      obtain ⟨hS, ⟨f0, f1, f2, f4, f5, f6⟩, hj, ⟨dd3, dd7, dd8, dd9⟩, ⟨p0, p1, p2, p3, p4⟩⟩ := HF.out
      exact hK.out (x36, x37, x38, x39, x40, .pointer (some ⟨bx, 1, none⟩), .string ⟨A.toArray⟩, x43, x44, x6) _ ⟨hS, ⟨(fun h => f0 (upd_ne h (by decide))), (fun h => f1 (upd_ne h (by decide))), (fun h => f2 (upd_ne h (by decide))), (fun h => f4 (upd_ne h (by decide))), (fun _ => rfl), (fun _ => rfl)⟩, j, hj, ⟨((upd_no (by decide)).trans dd3), ((upd_no (by decide)).trans dd7), ((upd_no (by decide)).trans dd8), ((upd_no (by decide)).trans dd9)⟩, ⟨p0, p1, p2, p3, p4⟩⟩
    · rintro d ⟨x36, x37, x38, x39, x40, x41, x42, x43, x44, x6⟩ w' hI hd hdp KQ hK
      dsimp only at hI
      obtain ⟨hS, ⟨f0, f1, f2, f4, f5, f6⟩, j, hj, ⟨dd3, dd7, dd8, dd9⟩, ⟨p0, p1, p2, p3, p4⟩⟩ := hI
      obtain rfl := f4 (hdp 4 (by decide +kernel))
      obtain rfl := f6 (hdp 6 (by decide +kernel))
      obtain rfl := ph_eq (k := 0) dd7 hd dd3 (hdp 3 (by decide +kernel))
      have s := p1 rfl
      clear p0 p1 p2 p3 p4 hj
      obtain ⟨ea, s⟩ := s
      have kk := pq_rsync s A HN.out.2.2.1 HNN.out.1 HN.out.2.2.2.2.2.1 HN.out.2.2.2.2.2.2.1
      rw [HC2.out] at kk
      have HG : Hid _ := And.intro hS (And.intro ea s)
      clear hS s ea
      have HF : Hid _ := And.intro (And.intro f0 (And.intro f1 (And.intro f2 (And.intro f4 (And.intro f5 f6))))) (And.intro dd3 (And.intro dd7 (And.intro dd8 dd9)))
      clear f0 f1 f2 f4 f5 f6 dd3 dd7 dd8 dd9 hdp hd
      refine Opn.mk ?_
      dsimp only
      go_simp
      go_wp2_with (first | (go_at_call 32; with_reducible refine kk.mono ?_; rintro e5 w5 ⟨rfl, G5⟩))
      obtain ⟨hS, ea, s⟩ := HG.out
      obtain ⟨⟨f0, f1, f2, f4, f5, f6⟩, ⟨dd3, dd7, dd8, dd9⟩⟩ := HF.out
      refine hK.out (x36, x37, x38, x39, .pointer (some ⟨rp, 0, none⟩), x41, .string ⟨A.toArray⟩, .int .i64 (c : Int), x44, x6) _ ⟨?sg, ⟨(fun h => f0 (upd_ne h (by decide))), (fun h => f1 (upd_ne h (by decide))), (fun h => f2 (upd_ne h (by decide))), (fun _ => rfl), (fun h => f5 (upd_ne h (by decide))), (fun _ => rfl)⟩, 2, by decide, ⟨((upd_no (by decide)).trans (dd3.trans (by decide))), (by simp [upd]), ((upd_no (by decide)).trans (dd8.trans (by decide))), ((upd_no (by decide)).trans (dd9.trans (by decide)))⟩, ⟨(fun h => absurd h (by decide)), (fun h => absurd h (by decide)), (fun _ => ?new), (fun h => absurd h (by decide)), (fun h => absurd h (by decide))⟩⟩
      case sg => exact G5.box
      case new =>
        exact ⟨ea, rfl, G5⟩
    · rintro d ⟨x36, x37, x38, x39, x40, x41, x42, x43, x44, x6⟩ w' hI hd hdp KQ hK
      dsimp only at hI
      obtain ⟨hS, ⟨f0, f1, f2, f4, f5, f6⟩, j, hj, ⟨dd3, dd7, dd8, dd9⟩, ⟨p0, p1, p2, p3, p4⟩⟩ := hI
      obtain rfl := ph_eq (k := 1) dd8 hd dd7 (hdp 7 (by decide +kernel))
      have s := p2 rfl
      clear p0 p1 p2 p3 p4 hj
      obtain ⟨ea, eb, s⟩ := s
      subst ea
      subst eb
      have HG : Hid _ := And.intro hS s
      clear hS s
      have HF : Hid _ := And.intro (And.intro f0 (And.intro f1 (And.intro f2 (And.intro f4 (And.intro f5 f6))))) (And.intro dd3 (And.intro dd7 (And.intro dd8 dd9)))
      clear f0 f1 f2 f4 f5 f6 dd3 dd7 dd8 dd9 hdp hd
      refine Opn.mk ?_
      dsimp only
      go_simp
      obtain ⟨hS, s⟩ := HG.out
      obtain ⟨⟨f0, f1, f2, f4, f5, f6⟩, ⟨dd3, dd7, dd8, dd9⟩⟩ := HF.out
      refine hK.out (x36, x37, x38, .int .i64 (c : Int), x40, x41, x42, .int .i64 (c : Int), .bool true, x6) _ ⟨?sg, ⟨(fun h => f0 (upd_ne h (by decide))), (fun h => f1 (upd_ne h (by decide))), (fun h => f2 (upd_ne h (by decide))), (fun h => f4 (upd_ne h (by decide))), (fun h => f5 (upd_ne h (by decide))), (fun h => f6 (upd_ne h (by decide)))⟩, 3, by decide, ⟨((upd_no (by decide)).trans (dd3.trans (by decide))), ((upd_no (by decide)).trans (dd7.trans (by decide))), (by simp [upd]), ((upd_no (by decide)).trans (dd9.trans (by decide)))⟩, ⟨(fun h => absurd h (by decide)), (fun h => absurd h (by decide)), (fun h => absurd h (by decide)), (fun _ => ?new), (fun h => absurd h (by decide))⟩⟩
      case sg => exact hS
      case new =>
        exact ⟨rfl, s⟩
    · rintro d ⟨x36, x37, x38, x39, x40, x41, x42, x43, x44, x6⟩ w' hI hd hdp KQ hK
      dsimp only at hI
      obtain ⟨hS, ⟨f0, f1, f2, f4, f5, f6⟩, j, hj, ⟨dd3, dd7, dd8, dd9⟩, ⟨p0, p1, p2, p3, p4⟩⟩ := hI
      obtain rfl := ph_eq (k := 2) dd9 hd dd8 (hdp 8 (by decide +kernel))
      have s := p3 rfl
      clear p0 p1 p2 p3 p4 hj
      obtain ⟨ea, s⟩ := s
      subst ea
      have HG : Hid _ := And.intro hS s
      clear hS s
      have HF : Hid _ := And.intro (And.intro f0 (And.intro f1 (And.intro f2 (And.intro f4 (And.intro f5 f6))))) (And.intro dd3 (And.intro dd7 (And.intro dd8 dd9)))
      clear f0 f1 f2 f4 f5 f6 dd3 dd7 dd8 dd9 hdp hd
      refine Opn.mk ?_
      dsimp only
      go_simp
      obtain ⟨hS, s⟩ := HG.out
      obtain ⟨⟨f0, f1, f2, f4, f5, f6⟩, ⟨dd3, dd7, dd8, dd9⟩⟩ := HF.out
      refine hK.out (x36, x37, x38, x39, x40, x41, x42, x43, .bool true, .bool true) _ ⟨?sg, ⟨(fun h => f0 (upd_ne h (by decide))), (fun h => f1 (upd_ne h (by decide))), (fun h => f2 (upd_ne h (by decide))), (fun h => f4 (upd_ne h (by decide))), (fun h => f5 (upd_ne h (by decide))), (fun h => f6 (upd_ne h (by decide)))⟩, 4, by decide, ⟨((upd_no (by decide)).trans (dd3.trans (by decide))), ((upd_no (by decide)).trans (dd7.trans (by decide))), ((upd_no (by decide)).trans (dd8.trans (by decide))), (by simp [upd])⟩, ⟨(fun h => absurd h (by decide)), (fun h => absurd h (by decide)), (fun h => absurd h (by decide)), (fun h => absurd h (by decide)), (fun _ => ?new)⟩⟩
      case sg => exact hS
      case new =>
        exact ⟨rfl, s⟩
  case he36 =>
    rintro d ⟨x36, x37, x38, x39, x40, x41, x42, x43, x44, x6⟩ w' hall hI
    dsimp only at hI
    obtain ⟨hS, ⟨f0, f1, f2, f4, f5, f6⟩, j, hj, ⟨dd3, dd7, dd8, dd9⟩, ⟨p0, p1, p2, p3, p4⟩⟩ := hI
    obtain rfl := ph_end (k := 3) hj dd9 (hall 9 (by decide))
    have s := p4 rfl
    clear hall hj f0 f1 f2 f4 f5 f6 dd3 dd7 dd8 dd9 p0 p1 p2 p3 p4
    obtain ⟨ea, s⟩ := s
    subst ea
    have HG : Hid _ := s
    clear hS s
    dsimp only
    go_wp2_with fail
    go_ret
    exact ⟨rfl, ⟨_, _, Pq.pp (t0 := tr) HG.out (HNN.out.2) (HR.out.sync A).2 (rsyn_pt tr A).2 HB.out.1 (by rw [(rsyn_pt tr A).1]; exact HB.out.2.1) (nms_sync HM.out A)⟩⟩
set_option maxRecDepth 100000 in
set_option maxHeartbeats 3200000 in
theorem both_4 (w0 w : World) (dp rp m : Nat) (sd : St) (tr : RSt) (K n : Int) (A B : Str) (ua : Option Addr) (uc : Nat) (bs : Str) (h : Pp w0 w dp rp m sd tr) (hm : m < 150) (ok : OpM.Ok w0 ⟨K, A, B, .slice ua bs.length uc, bs, n⟩) (hk : absN K % 12 = 4) :
    Calls Try.prog 13 #[.pointer (some ⟨dp, 0, none⟩), .pointer (some ⟨rp, 0, none⟩), .agg #[.int .i64 K, .string ⟨A.toArray⟩, .string ⟨B.toArray⟩, .slice ua bs.length uc, .int .i64 n]] w fun e w' => e = .returned (.bool true) ∧ Bth w0 w' dp rp m := by
  have mixed : Try.prog.follows .mixedOrders = true := by kernel_rfl
  obtain ⟨W, hW⟩ : ∃ W, W = w.alloc (.cells #[.int .i64 K, .string ⟨A.toArray⟩, .string ⟨B.toArray⟩, .slice ua bs.length uc, .int .i64 n] 31) := ⟨_, rfl⟩
  have hq := h.box hW
  have kAb := abs_any W K ok.k1 ok.k2
  have hab : (absN K : Int) % 12 = 4 := by omega
  have HR : Hid (Rel sd tr) := h.rel
  have HM : Hid (NmS sd) := h.nm
  have HB : Hid (tr.n ≤ m ∧ tr.part ≤ 9223372036854775807 ∧ m < 150) := ⟨h.n, h.part, hm⟩
  have HW : Hid (W = w.alloc (.cells #[.int .i64 K, .string ⟨A.toArray⟩, .string ⟨B.toArray⟩, .slice ua bs.length uc, .int .i64 n] 31)) := hW
  have hA : A.length ≤ maxLen := by have := ok.a; simp only at this; unfold maxLen; omega
  have hBl : B.length ≤ maxLen := by have := ok.b; simp only at this; unfold maxLen; omega
  have HOK : Hid (OpM.Ok w0 ⟨K, A, B, .slice ua bs.length uc, bs, n⟩) := ok
  have hN : m * 2097152 + bs.length + bs.length ≤ 140737488355328 := by have := ok.rl; simp only at this; omega
  have hN2 : m * 2097152 + bs.length + bs.length ≤ (m + 1) * 2097152 := by have := ok.rl; simp only at this; omega
  have hop : sd.ops < 1000000 := by have := h.n; have := h.rel.n; omega
  have hopt : tr.n < 1000000 := by have := h.n; omega
  have hpt := h.part
  have hS := h.rel.sp.srt
  have HQ : Hid (Pq w0 W dp rp (m * 2097152) sd tr w.heap.size 31 #[.int .i64 K, .string ⟨A.toArray⟩, .string ⟨B.toArray⟩, .slice ua bs.length uc, .int .i64 n]) := hq
  obtain ⟨bx, hbx⟩ : ∃ b, b = w.heap.size := ⟨_, rfl⟩
  rw [← hbx] at HQ
  have HN : Hid (m * 2097152 + bs.length + bs.length ≤ 140737488355328 ∧ m * 2097152 + bs.length + bs.length ≤ (m + 1) * 2097152 ∧ A.length ≤ maxLen ∧ B.length ≤ maxLen ∧ sd.ops < 1000000 ∧ tr.n < 1000000 ∧ tr.part ≤ 9223372036854775807 ∧ Srt tr.fs) := ⟨hN, hN2, hA, hBl, hop, hopt, hpt, hS⟩
  have HNN : Hid (m * 2097152 ≤ 140737488355328 ∧ m * 2097152 ≤ (m + 1) * 2097152) := by apply hide; omega
  have c0 := HQ.out.box.cell 0 _ rfl
  clear hq h ok hW hm hA hBl hN hN2 hop hopt hpt hS hk
  go_enter Try.func13, Try.ntmps13
  go_wp2_with fail
  rw [← HW.out]
  go_wp2_with fail
  refine kAb.mono ?_
  rintro e wq ⟨rfl, rfl⟩
  clear kAb
  go_upto_region 8 with fail
  rw [← hbx]
  try rw [hab]
  clear hbx hab
  obtain ⟨c, hc⟩ : ∃ c, c = (sd.sync A).1 := ⟨_, rfl⟩
  have HC1 : Hid ((sd.sync A).1 = c) := hc.symm
  have HC2 : Hid ((rsyn tr A).1 = c) := by apply hide; rw [hc]; exact (HR.out.sync A).1.symm
  have hSig0 : BxA wq.drew bx 31 #[.int .i64 K, .string ⟨A.toArray⟩, .string ⟨B.toArray⟩, .slice ua bs.length uc, .int .i64 n] := HQ.out.box
  have hS00 : Pq w0 wq.drew dp rp (m * 2097152) sd tr bx 31 #[.int .i64 K, .string ⟨A.toArray⟩, .string ⟨B.toArray⟩, .slice ua bs.length uc, .int .i64 n] := pq_drew HQ.out
  clear hc c0
  refine wp_region_invF (β := Value × Value × Value × Value × Value × Value × Value × Value × Value × Value) (fun a0 xq => ((((((((((a0.put (some 36) (xq.1)).put (some 37) (xq.2.1)).put (some 38) (xq.2.2.1)).put (some 39) (xq.2.2.2.1)).put (some 40) (xq.2.2.2.2.1)).put (some 41) (xq.2.2.2.2.2.1)).put (some 42) (xq.2.2.2.2.2.2.1)).put (some 43) (xq.2.2.2.2.2.2.2.1)).put (some 44) (xq.2.2.2.2.2.2.2.2.1)).put (some 6) (xq.2.2.2.2.2.2.2.2.2))) ?fr36 (fun xq d w' => (BxA w' bx 31 #[.int .i64 K, .string ⟨A.toArray⟩, .string ⟨B.toArray⟩, .slice ua bs.length uc, .int .i64 n]) ∧ ((d 0 = true → (xq.1) = .pointer (some ⟨dp, 0, none⟩)) ∧ (d 1 = true → (xq.2.1) = .pointer (some ⟨bx, 1, none⟩)) ∧ (d 2 = true → (xq.2.2.1) = .string ⟨A.toArray⟩) ∧ (d 4 = true → (xq.2.2.2.2.1) = .pointer (some ⟨rp, 0, none⟩)) ∧ (d 5 = true → (xq.2.2.2.2.2.1) = .pointer (some ⟨bx, 1, none⟩)) ∧ (d 6 = true → (xq.2.2.2.2.2.2.1) = .string ⟨A.toArray⟩)) ∧ ∃ j : Nat, j ≤ 4 ∧ (d 3 = decide (0 < j) ∧ d 7 = decide (1 < j) ∧ d 8 = decide (2 < j) ∧ d 9 = decide (3 < j)) ∧ ((j = 0 → Pq w0 w' dp rp (m * 2097152) (sd) (tr) bx 31 #[.int .i64 K, .string ⟨A.toArray⟩, .string ⟨B.toArray⟩, .slice ua bs.length uc, .int .i64 n]) ∧ (j = 1 → (xq.2.2.2.1) = .int .i64 (c : Int) ∧ Pq w0 w' dp rp (m * 2097152) ((sd.sync A).2) (tr) bx 31 #[.int .i64 K, .string ⟨A.toArray⟩, .string ⟨B.toArray⟩, .slice ua bs.length uc, .int .i64 n]) ∧ (j = 2 → (xq.2.2.2.1) = .int .i64 (c : Int) ∧ (xq.2.2.2.2.2.2.2.1) = .int .i64 (c : Int) ∧ Pq w0 w' dp rp (m * 2097152) ((sd.sync A).2) ((rsyn tr A).2) bx 31 #[.int .i64 K, .string ⟨A.toArray⟩, .string ⟨B.toArray⟩, .slice ua bs.length uc, .int .i64 n]) ∧ (j = 3 → (xq.2.2.2.2.2.2.2.2.1) = .bool true ∧ Pq w0 w' dp rp (m * 2097152) ((sd.sync A).2) ((rsyn tr A).2) bx 31 #[.int .i64 K, .string ⟨A.toArray⟩, .string ⟨B.toArray⟩, .slice ua bs.length uc, .int .i64 n]) ∧ (j = 4 → (xq.2.2.2.2.2.2.2.2.2) = .bool true ∧ Pq w0 w' dp rp (m * 2097152) ((sd.sync A).2) ((rsyn tr A).2) bx 31 #[.int .i64 K, .string ⟨A.toArray⟩, .string ⟨B.toArray⟩, .slice ua bs.length uc, .int .i64 n]))) ?lay36 mixed (by kernel_rfl) ?h036 ?hs36 ?he36
  case lay36 =>
    intro xq
    simp only [Act.put, List.setIfInBounds_toArray, List.set_cons_zero, List.set_cons_succ]
    rfl
  case h036 =>
    refine ⟨(undef, undef, undef, undef, undef, undef, undef, undef, undef, .bool false), rfl, ?sig36, ⟨(fun h => by cases h), (fun h => by cases h), (fun h => by cases h), (fun h => by cases h), (fun h => by cases h), (fun h => by cases h)⟩, 0, Nat.zero_le _, ⟨rfl, rfl, rfl, rfl⟩, ?S036, (fun h => by cases h), (fun h => by cases h), (fun h => by cases h), (fun h => by cases h)⟩
    case sig36 => exact hSig0
    case S036 => exact fun _ => hS00
  case hs36 =>
    refine ⟨?_, ?_, ?_, ?_, ?_, ?_, ?_, ?_, ?_, ?_, trivial⟩
    · rintro d ⟨x36, x37, x38, x39, x40, x41, x42, x43, x44, x6⟩ w' hI hd hdp KQ hK
      dsimp only at hI
      obtain ⟨hS, ⟨f0, f1, f2, f4, f5, f6⟩, j, hj, ⟨dd3, dd7, dd8, dd9⟩, ⟨p0, p1, p2, p3, p4⟩⟩ := hI
      have HF : Hid _ := And.intro hS (And.intro (And.intro f0 (And.intro f1 (And.intro f2 (And.intro f4 (And.intro f5 f6))))) (And.intro hj (And.intro (And.intro dd3 (And.intro dd7 (And.intro dd8 dd9))) (And.intro p0 (And.intro p1 (And.intro p2 (And.intro p3 p4)))))))
      clear hS f0 f1 f2 f4 f5 f6 hj dd3 dd7 dd8 dd9 p0 p1 p2 p3 p4 hdp hd
      refine Opn.mk ?_
      dsimp only
      go_simp
      obtain ⟨hS, ⟨f0, f1, f2, f4, f5, f6⟩, hj, ⟨dd3, dd7, dd8, dd9⟩, ⟨p0, p1, p2, p3, p4⟩⟩ := HF.out
      exact hK.out (.pointer (some ⟨dp, 0, none⟩), x37, x38, x39, x40, x41, x42, x43, x44, x6) _ ⟨hS, ⟨(fun _ => rfl), (fun h => f1 (upd_ne h (by decide))), (fun h => f2 (upd_ne h (by decide))), (fun h => f4 (upd_ne h (by decide))), (fun h => f5 (upd_ne h (by decide))), (fun h => f6 (upd_ne h (by decide)))⟩, j, hj, ⟨((upd_no (by decide)).trans dd3), ((upd_no (by decide)).trans dd7), ((upd_no (by decide)).trans dd8), ((upd_no (by decide)).trans dd9)⟩, ⟨p0, p1, p2, p3, p4⟩⟩
    · rintro d ⟨x36, x37, x38, x39, x40, x41, x42, x43, x44, x6⟩ w' hI hd hdp KQ hK
      dsimp only at hI
      obtain ⟨hS, ⟨f0, f1, f2, f4, f5, f6⟩, j, hj, ⟨dd3, dd7, dd8, dd9⟩, ⟨p0, p1, p2, p3, p4⟩⟩ := hI
      have HF : Hid _ := And.intro hS (And.intro (And.intro f0 (And.intro f1 (And.intro f2 (And.intro f4 (And.intro f5 f6))))) (And.intro hj (And.intro (And.intro dd3 (And.intro dd7 (And.intro dd8 dd9))) (And.intro p0 (And.intro p1 (And.intro p2 (And.intro p3 p4)))))))
      clear hS f0 f1 f2 f4 f5 f6 hj dd3 dd7 dd8 dd9 p0 p1 p2 p3 p4 hdp hd
      refine Opn.mk ?_
      dsimp only
      go_simp
      obtain ⟨hS, ⟨f0, f1, f2, f4, f5, f6⟩, hj, ⟨dd3, dd7, dd8, dd9⟩, ⟨p0, p1, p2, p3, p4⟩⟩ := HF.out
      exact hK.out (x36, .pointer (some ⟨bx, 1, none⟩), x38, x39, x40, x41, x42, x43, x44, x6) _ ⟨hS, ⟨(fun h => f0 (upd_ne h (by decide))), (fun _ => rfl), (fun h => f2 (upd_ne h (by decide))), (fun h => f4 (upd_ne h (by decide))), (fun h => f5 (upd_ne h (by decide))), (fun h => f6 (upd_ne h (by decide)))⟩, j, hj, ⟨((upd_no (by decide)).trans dd3), ((upd_no (by decide)).trans dd7), ((upd_no (by decide)).trans dd8), ((upd_no (by decide)).trans dd9)⟩, ⟨p0, p1, p2, p3, p4⟩⟩
    · rintro d ⟨x36, x37, x38, x39, x40, x41, x42, x43, x44, x6⟩ w' hI hd hdp KQ hK
      dsimp only at hI
      obtain ⟨hS, ⟨f0, f1, f2, f4, f5, f6⟩, j, hj, ⟨dd3, dd7, dd8, dd9⟩, ⟨p0, p1, p2, p3, p4⟩⟩ := hI
      obtain rfl := f1 (hdp 1 (by decide +kernel))
      have cc : w'.cell? ⟨bx, 1, none⟩ = some (.string ⟨A.toArray⟩) := BxA.cell hS 1 _ rfl
      have HF : Hid _ := And.intro hS (And.intro (And.intro f0 (And.intro f1 (And.intro f2 (And.intro f4 (And.intro f5 f6))))) (And.intro hj (And.intro (And.intro dd3 (And.intro dd7 (And.intro dd8 dd9))) (And.intro p0 (And.intro p1 (And.intro p2 (And.intro p3 p4)))))))
      clear hS f0 f1 f2 f4 f5 f6 hj dd3 dd7 dd8 dd9 p0 p1 p2 p3 p4 hdp hd
      refine Opn.mk ?_
      dsimp only
      go_simp
      obtain ⟨hS, ⟨f0, f1, f2, f4, f5, f6⟩, hj, ⟨dd3, dd7, dd8, dd9⟩, ⟨p0, p1, p2, p3, p4⟩⟩ := HF.out
      exact hK.out (x36, .pointer (some ⟨bx, 1, none⟩), .string ⟨A.toArray⟩, x39, x40, x41, x42, x43, x44, x6) _ ⟨hS, ⟨(fun h => f0 (upd_ne h (by decide))), (fun _ => rfl), (fun _ => rfl), (fun h => f4 (upd_ne h (by decide))), (fun h => f5 (upd_ne h (by decide))), (fun h => f6 (upd_ne h (by decide)))⟩, j, hj, ⟨((upd_no (by decide)).trans dd3), ((upd_no (by decide)).trans dd7), ((upd_no (by decide)).trans dd8), ((upd_no (by decide)).trans dd9)⟩, ⟨p0, p1, p2, p3, p4⟩⟩
    · rintro d ⟨x36, x37, x38, x39, x40, x41, x42, x43, x44, x6⟩ w' hI hd hdp KQ hK
      dsimp only at hI
      obtain ⟨hS, ⟨f0, f1, f2, f4, f5, f6⟩, j, hj, ⟨dd3, dd7, dd8, dd9⟩, ⟨p0, p1, p2, p3, p4⟩⟩ := hI
      obtain rfl := f0 (hdp 0 (by decide +kernel))
      obtain rfl := f2 (hdp 2 (by decide +kernel))
      obtain rfl := ph_zero dd3 hd
      have s := p0 rfl
      clear p0 p1 p2 p3 p4 hj
      have kk := pq_sync s A HN.out.2.2.1 HN.out.2.2.2.2.1
      rw [HC1.out] at kk
      have HG : Hid _ := And.intro hS s
      clear hS s
      have HF : Hid _ := And.intro (And.intro f0 (And.intro f1 (And.intro f2 (And.intro f4 (And.intro f5 f6))))) (And.intro dd3 (And.intro dd7 (And.intro dd8 dd9)))
      clear f0 f1 f2 f4 f5 f6 dd3 dd7 dd8 dd9 hdp hd
      refine Opn.mk ?_
      dsimp only
      go_simp
      go_wp2_with (first | (go_at_call 24; with_reducible refine kk.mono ?_; rintro e5 w5 ⟨rfl, G5⟩))
      obtain ⟨hS, s⟩ := HG.out
      obtain ⟨⟨f0, f1, f2, f4, f5, f6⟩, ⟨dd3, dd7, dd8, dd9⟩⟩ := HF.out
      refine hK.out (.pointer (some ⟨dp, 0, none⟩), x37, .string ⟨A.toArray⟩, .int .i64 (c : Int), x40, x41, x42, x43, x44, x6) _ ⟨?sg, ⟨(fun _ => rfl), (fun h => f1 (upd_ne h (by decide))), (fun _ => rfl), (fun h => f4 (upd_ne h (by decide))), (fun h => f5 (upd_ne h (by decide))), (fun h => f6 (upd_ne h (by decide)))⟩, 1, by decide, ⟨(by simp [upd]), ((upd_no (by decide)).trans (dd7.trans (by decide))), ((upd_no (by decide)).trans (dd8.trans (by decide))), ((upd_no (by decide)).trans (dd9.trans (by decide)))⟩, ⟨(fun h => absurd h (by decide)), (fun _ => ?new), (fun h => absurd h (by decide)), (fun h => absurd h (by decide)), (fun h => absurd h (by decide))⟩⟩
      case sg => exact G5.box
      case new =>
        exact ⟨rfl, G5⟩
    · rintro d ⟨x36, x37, x38, x39, x40, x41, x42, x43, x44, x6⟩ w' hI hd hdp KQ hK
      dsimp only at hI
      obtain ⟨hS, ⟨f0, f1, f2, f4, f5, f6⟩, j, hj, ⟨dd3, dd7, dd8, dd9⟩, ⟨p0, p1, p2, p3, p4⟩⟩ := hI
      have HF : Hid _ := And.intro hS (And.intro (And.intro f0 (And.intro f1 (And.intro f2 (And.intro f4 (And.intro f5 f6))))) (And.intro hj (And.intro (And.intro dd3 (And.intro dd7 (And.intro dd8 dd9))) (And.intro p0 (And.intro p1 (And.intro p2 (And.intro p3 p4)))))))
      clear hS f0 f1 f2 f4 f5 f6 hj dd3 dd7 dd8 dd9 p0 p1 p2 p3 p4 hdp hd
      refine Opn.mk ?_
      dsimp only
      go_simp
      obtain ⟨hS, ⟨f0, f1, f2, f4, f5, f6⟩, hj, ⟨dd3, dd7, dd8, dd9⟩, ⟨p0, p1, p2, p3, p4⟩⟩ := HF.out
      exact hK.out (x36, x37, x38, x39, .pointer (some ⟨rp, 0, none⟩), x41, x42, x43, x44, x6) _ ⟨hS, ⟨(fun h => f0 (upd_ne h (by decide))), (fun h => f1 (upd_ne h (by decide))), (fun h => f2 (upd_ne h (by decide))), (fun _ => rfl), (fun h => f5 (upd_ne h (by decide))), (fun h => f6 (upd_ne h (by decide)))⟩, j, hj, ⟨((upd_no (by decide)).trans dd3), ((upd_no (by decide)).trans dd7), ((upd_no (by decide)).trans dd8), ((upd_no (by decide)).trans dd9)⟩, ⟨p0, p1, p2, p3, p4⟩⟩
    · rintro d ⟨x36, x37, x38, x39, x40, x41, x42, x43, x44, x6⟩ w' hI hd hdp KQ hK
      dsimp only at hI
      obtain ⟨hS, ⟨f0, f1, f2, f4, f5, f6⟩, j, hj, ⟨dd3, dd7, dd8, dd9⟩, ⟨p0, p1, p2, p3, p4⟩⟩ := hI
      have HF : Hid _ := And.intro hS (And.intro (And.intro f0 (And.intro f1 (And.intro f2 (And.intro f4 (And.intro f5 f6))))) (And.intro hj (And.intro (And.intro dd3 (And.intro dd7 (And.intro dd8 dd9))) (And.intro p0 (And.intro p1 (And.intro p2 (And.intro p3 p4)))))))
      clear hS f0 f1 f2 f4 f5 f6 hj dd3 dd7 dd8 dd9 p0 p1 p2 p3 p4 hdp hd
      refine Opn.mk ?_
      dsimp only
      go_simp
      obtain ⟨hS, ⟨f0, f1, f2, f4, f5, f6⟩, hj, ⟨dd3, dd7, dd8, dd9⟩, ⟨p0, p1, p2, p3, p4⟩⟩ := HF.out
      exact hK.out (x36, x37, x38, x39, x40, .pointer (some ⟨bx, 1, none⟩), x42, x43, x44, x6) _ ⟨hS, ⟨(fun h => f0 (upd_ne h (by decide))), (fun h => f1 (upd_ne h (by decide))), (fun h => f2 (upd_ne h (by decide))), (fun h => f4 (upd_ne h (by decide))), (fun _ => rfl), (fun h => f6 (upd_ne h (by decide)))⟩, j, hj, ⟨((upd_no (by decide)).trans dd3), ((upd_no (by decide)).trans dd7), ((upd_no (by decide)).trans dd8), ((upd_no (by decide)).trans dd9)⟩, ⟨p0, p1, p2, p3, p4⟩⟩
    · rintro d ⟨x36, x37, x38, x39, x40, x41, x42, x43, x44, x6⟩ w' hI hd hdp KQ hK
      dsimp only at hI
      obtain ⟨hS, ⟨f0, f1, f2, f4, f5, f6⟩, j, hj, ⟨dd3, dd7, dd8, dd9⟩, ⟨p0, p1, p2, p3, p4⟩⟩ := hI
      obtain rfl := f5 (hdp 5 (by decide +kernel))
      have cc : w'.cell? ⟨bx, 1, none⟩ = some (.string ⟨A.toArray⟩) := BxA.cell hS 1 _ rfl
      have HF : Hid _ := And.intro hS (And.intro (And.intro f0 (And.intro f1 (And.intro f2 (And.intro f4 (And.intro f5 f6))))) (And.intro hj (And.intro (And.intro dd3 (And.intro dd7 (And.intro dd8 dd9))) (And.intro p0 (And.intro p1 (And.intro p2 (And.intro p3 p4)))))))
      clear hS f0 f1 f2 f4 f5 f6 hj dd3 dd7 dd8 dd9 p0 p1 p2 p3 p4 hdp hd
      refine Opn.mk ?_
      dsimp only
      go_simp
      obtain ⟨hS, ⟨f0, f1, f2, f4, f5, f6⟩, hj, ⟨dd3, dd7, dd8, dd9⟩, ⟨p0, p1, p2, p3, p4⟩⟩ := HF.out
      exact hK.out (x36, x37, x38, x39, x40, .pointer (some ⟨bx, 1, none⟩), .string ⟨A.toArray⟩, x43, x44, x6) _ ⟨hS, ⟨(fun h => f0 (upd_ne h (by decide))), (fun h => f1 (upd_ne h (by decide))), (fun h => f2 (upd_ne h (by decide))), (fun h => f4 (upd_ne h (by decide))), (fun _ => rfl), (fun _ => rfl)⟩, j, hj, ⟨((upd_no (by decide)).trans dd3), ((upd_no (by decide)).trans dd7), ((upd_no (by decide)).trans dd8), ((upd_no (by decide)).trans dd9)⟩, ⟨p0, p1, p2, p3, p4⟩⟩
    · rintro d ⟨x36, x37, x38, x39, x40, x41, x42, x43, x44, x6⟩ w' hI hd hdp KQ hK
      dsimp only at hI
      obtain ⟨hS, ⟨f0, f1, f2, f4, f5, f6⟩, j, hj, ⟨dd3, dd7, dd8, dd9⟩, ⟨p0, p1, p2, p3, p4⟩⟩ := hI
      obtain rfl := f4 (hdp 4 (by decide +kernel))
      obtain rfl := f6 (hdp 6 (by decide +kernel))
      obtain rfl := ph_eq (k := 0) dd7 hd dd3 (hdp 3 (by decide +kernel))
      have s := p1 rfl
      clear p0 p1 p2 p3 p4 hj
      obtain ⟨ea, s⟩ := s
      have kk := pq_rsync s A HN.out.2.2.1 HNN.out.1 HN.out.2.2.2.2.2.1 HN.out.2.2.2.2.2.2.1
      rw [HC2.out] at kk
      have HG : Hid _ := And.intro hS (And.intro ea s)
      clear hS s ea
      have HF : Hid _ := And.intro (And.intro f0 (And.intro f1 (And.intro f2 (And.intro f4 (And.intro f5 f6))))) (And.intro dd3 (And.intro dd7 (And.intro dd8 dd9)))
      clear f0 f1 f2 f4 f5 f6 dd3 dd7 dd8 dd9 hdp hd
      refine Opn.mk ?_
      dsimp only
      go_simp
      go_wp2_with (first | (go_at_call 32; with_reducible refine kk.mono ?_; rintro e5 w5 ⟨rfl, G5⟩))
      obtain ⟨hS, ea, s⟩ := HG.out
      obtain ⟨⟨f0, f1, f2, f4, f5, f6⟩, ⟨dd3, dd7, dd8, dd9⟩⟩ := HF.out
      refine hK.out (x36, x37, x38, x39, .pointer (some ⟨rp, 0, none⟩), x41, .string ⟨A.toArray⟩, .int .i64 (c : Int), x44, x6) _ ⟨?sg, ⟨(fun h => f0 (upd_ne h (by decide))), (fun h => f1 (upd_ne h (by decide))), (fun h => f2 (upd_ne h (by decide))), (fun _ => rfl), (fun h => f5 (upd_ne h (by decide))), (fun _ => rfl)⟩, 2, by decide, ⟨((upd_no (by decide)).trans (dd3.trans (by decide))), (by simp [upd]), ((upd_no (by decide)).trans (dd8.trans (by decide))), ((upd_no (by decide)).trans (dd9.trans (by decide)))⟩, ⟨(fun h => absurd h (by decide)), (fun h => absurd h (by decide)), (fun _ => ?new), (fun h => absurd h (by decide)), (fun h => absurd h (by decide))⟩⟩
      case sg => exact G5.box
      case new =>
        exact ⟨ea, rfl, G5⟩
    · rintro d ⟨x36, x37, x38, x39, x40, x41, x42, x43, x44, x6⟩ w' hI hd hdp KQ hK
      dsimp only at hI
      obtain ⟨hS, ⟨f0, f1, f2, f4, f5, f6⟩, j, hj, ⟨dd3, dd7, dd8, dd9⟩, ⟨p0, p1, p2, p3, p4⟩⟩ := hI
      obtain rfl := ph_eq (k := 1) dd8 hd dd7 (hdp 7 (by decide +kernel))
      have s := p2 rfl
      clear p0 p1 p2 p3 p4 hj
      obtain ⟨ea, eb, s⟩ := s
      subst ea
      subst eb
      have HG : Hid _ := And.intro hS s
      clear hS s
      have HF : Hid _ := And.intro (And.intro f0 (And.intro f1 (And.intro f2 (And.intro f4 (And.intro f5 f6))))) (And.intro dd3 (And.intro dd7 (And.intro dd8 dd9)))
      clear f0 f1 f2 f4 f5 f6 dd3 dd7 dd8 dd9 hdp hd
      refine Opn.mk ?_
      dsimp only
      go_simp
      obtain ⟨hS, s⟩ := HG.out
      obtain ⟨⟨f0, f1, f2, f4, f5, f6⟩, ⟨dd3, dd7, dd8, dd9⟩⟩ := HF.out
      refine hK.out (x36, x37, x38, .int .i64 (c : Int), x40, x41, x42, .int .i64 (c : Int), .bool true, x6) _ ⟨?sg, ⟨(fun h => f0 (upd_ne h (by decide))), (fun h => f1 (upd_ne h (by decide))), (fun h => f2 (upd_ne h (by decide))), (fun h => f4 (upd_ne h (by decide))), (fun h => f5 (upd_ne h (by decide))), (fun h => f6 (upd_ne h (by decide)))⟩, 3, by decide, ⟨((upd_no (by decide)).trans (dd3.trans (by decide))), ((upd_no (by decide)).trans (dd7.trans (by decide))), (by simp [upd]), ((upd_no (by decide)).trans (dd9.trans (by decide)))⟩, ⟨(fun h => absurd h (by decide)), (fun h => absurd h (by decide)), (fun h => absurd h (by decide)), (fun _ => ?new), (fun h => absurd h (by decide))⟩⟩
      case sg => exact hS
      case new =>
        exact ⟨rfl, s⟩
    · rintro d ⟨x36, x37, x38, x39, x40, x41, x42, x43, x44, x6⟩ w' hI hd hdp KQ hK
      dsimp only at hI
      obtain ⟨hS, ⟨f0, f1, f2, f4, f5, f6⟩, j, hj, ⟨dd3, dd7, dd8, dd9⟩, ⟨p0, p1, p2, p3, p4⟩⟩ := hI
      obtain rfl := ph_eq (k := 2) dd9 hd dd8 (hdp 8 (by decide +kernel))
      have s := p3 rfl
      clear p0 p1 p2 p3 p4 hj
      obtain ⟨ea, s⟩ := s
      subst ea
      have HG : Hid _ := And.intro hS s
      clear hS s
      have HF : Hid _ := And.intro (And.intro f0 (And.intro f1 (And.intro f2 (And.intro f4 (And.intro f5 f6))))) (And.intro dd3 (And.intro dd7 (And.intro dd8 dd9)))
      clear f0 f1 f2 f4 f5 f6 dd3 dd7 dd8 dd9 hdp hd
      refine Opn.mk ?_
      dsimp only
      go_simp
      obtain ⟨hS, s⟩ := HG.out
      obtain ⟨⟨f0, f1, f2, f4, f5, f6⟩, ⟨dd3, dd7, dd8, dd9⟩⟩ := HF.out
      refine hK.out (x36, x37, x38, x39, x40, x41, x42, x43, .bool true, .bool true) _ ⟨?sg, ⟨(fun h => f0 (upd_ne h (by decide))), (fun h => f1 (upd_ne h (by decide))), (fun h => f2 (upd_ne h (by decide))), (fun h => f4 (upd_ne h (by decide))), (fun h => f5 (upd_ne h (by decide))), (fun h => f6 (upd_ne h (by decide)))⟩, 4, by decide, ⟨((upd_no (by decide)).trans (dd3.trans (by decide))), ((upd_no (by decide)).trans (dd7.trans (by decide))), ((upd_no (by decide)).trans (dd8.trans (by decide))), (by simp [upd])⟩, ⟨(fun h => absurd h (by decide)), (fun h => absurd h (by decide)), (fun h => absurd h (by decide)), (fun h => absurd h (by decide)), (fun _ => ?new)⟩⟩
      case sg => exact hS
      case new =>
        exact ⟨rfl, s⟩
  case he36 =>
    rintro d ⟨x36, x37, x38, x39, x40, x41, x42, x43, x44, x6⟩ w' hall hI
    dsimp only at hI
    obtain ⟨hS, ⟨f0, f1, f2, f4, f5, f6⟩, j, hj, ⟨dd3, dd7, dd8, dd9⟩, ⟨p0, p1, p2, p3, p4⟩⟩ := hI
    obtain rfl := ph_end (k := 3) hj dd9 (hall 9 (by decide))
    have s := p4 rfl
    clear hall hj f0 f1 f2 f4 f5 f6 dd3 dd7 dd8 dd9 p0 p1 p2 p3 p4
    obtain ⟨ea, s⟩ := s
    subst ea
    have HG : Hid _ := s
    clear hS s
    dsimp only
    go_wp2_with fail
    go_ret
    exact ⟨rfl, ⟨_, _, Pq.pp (t0 := tr) HG.out (HNN.out.2) (HR.out.sync A).2 (rsyn_pt tr A).2 HB.out.1 (by rw [(rsyn_pt tr A).1]; exact HB.out.2.1) (nms_sync HM.out A)⟩⟩
set_option maxRecDepth 100000 in
set_option maxHeartbeats 3200000 in
theorem both_5 (w0 w : World) (dp rp m : Nat) (sd : St) (tr : RSt) (K n : Int) (A B : Str) (ua : Option Addr) (uc : Nat) (bs : Str) (h : Pp w0 w dp rp m sd tr) (hm : m < 150) (ok : OpM.Ok w0 ⟨K, A, B, .slice ua bs.length uc, bs, n⟩) (hk : absN K % 12 = 5) :
    Calls Try.prog 13 #[.pointer (some ⟨dp, 0, none⟩), .pointer (some ⟨rp, 0, none⟩), .agg #[.int .i64 K, .string ⟨A.toArray⟩, .string ⟨B.toArray⟩, .slice ua bs.length uc, .int .i64 n]] w fun e w' => e = .returned (.bool true) ∧ Bth w0 w' dp rp m := by
  have mixed : Try.prog.follows .mixedOrders = true := by kernel_rfl
  obtain ⟨W, hW⟩ : ∃ W, W = w.alloc (.cells #[.int .i64 K, .string ⟨A.toArray⟩, .string ⟨B.toArray⟩, .slice ua bs.length uc, .int .i64 n] 31) := ⟨_, rfl⟩
  have hq := h.box hW
  have kAb := abs_any W K ok.k1 ok.k2
  have hab : (absN K : Int) % 12 = 5 := by omega
  have HR : Hid (Rel sd tr) := h.rel
  have HM : Hid (NmS sd) := h.nm
  have HB : Hid (tr.n ≤ m ∧ tr.part ≤ 9223372036854775807 ∧ m < 150) := ⟨h.n, h.part, hm⟩
  have HW : Hid (W = w.alloc (.cells #[.int .i64 K, .string ⟨A.toArray⟩, .string ⟨B.toArray⟩, .slice ua bs.length uc, .int .i64 n] 31)) := hW
  have hA : A.length ≤ maxLen := by have := ok.a; simp only at this; unfold maxLen; omega
  have hBl : B.length ≤ maxLen := by have := ok.b; simp only at this; unfold maxLen; omega
  have HOK : Hid (OpM.Ok w0 ⟨K, A, B, .slice ua bs.length uc, bs, n⟩) := ok
  have hN : m * 2097152 + bs.length + bs.length ≤ 140737488355328 := by have := ok.rl; simp only at this; omega
  have hN2 : m * 2097152 + bs.length + bs.length ≤ (m + 1) * 2097152 := by have := ok.rl; simp only at this; omega
  have hop : sd.ops < 1000000 := by have := h.n; have := h.rel.n; omega
  have hopt : tr.n < 1000000 := by have := h.n; omega
  have hpt := h.part
  have hS := h.rel.sp.srt
  have HQ : Hid (Pq w0 W dp rp (m * 2097152) sd tr w.heap.size 31 #[.int .i64 K, .string ⟨A.toArray⟩, .string ⟨B.toArray⟩, .slice ua bs.length uc, .int .i64 n]) := hq
  obtain ⟨bx, hbx⟩ : ∃ b, b = w.heap.size := ⟨_, rfl⟩
  rw [← hbx] at HQ
  have HN : Hid (m * 2097152 + bs.length + bs.length ≤ 140737488355328 ∧ m * 2097152 + bs.length + bs.length ≤ (m + 1) * 2097152 ∧ A.length ≤ maxLen ∧ B.length ≤ maxLen ∧ sd.ops < 1000000 ∧ tr.n < 1000000 ∧ tr.part ≤ 9223372036854775807 ∧ Srt tr.fs) := ⟨hN, hN2, hA, hBl, hop, hopt, hpt, hS⟩
  have HNN : Hid (m * 2097152 ≤ 140737488355328 ∧ m * 2097152 ≤ (m + 1) * 2097152) := by apply hide; omega
  have c0 := HQ.out.box.cell 0 _ rfl
  clear hq h ok hW hm hA hBl hN hN2 hop hopt hpt hS hk
  go_enter Try.func13, Try.ntmps13
  go_wp2_with fail
  rw [← HW.out]
  go_wp2_with fail
  refine kAb.mono ?_
  rintro e wq ⟨rfl, rfl⟩
  clear kAb
  go_upto_region 10 with fail
  rw [← hbx]
  try rw [hab]
  clear hbx hab
  obtain ⟨c, hc⟩ : ∃ c, c = (sd.rename A B).1 := ⟨_, rfl⟩
  have HC1 : Hid ((sd.rename A B).1 = c) := hc.symm
  have HC2 : Hid ((rren tr A B).1 = c) := by apply hide; rw [hc]; exact (HR.out.rename A B).1.symm
  have hSig0 : BxA wq.drew bx 31 #[.int .i64 K, .string ⟨A.toArray⟩, .string ⟨B.toArray⟩, .slice ua bs.length uc, .int .i64 n] := HQ.out.box
  have hS00 : Pq w0 wq.drew dp rp (m * 2097152) sd tr bx 31 #[.int .i64 K, .string ⟨A.toArray⟩, .string ⟨B.toArray⟩, .slice ua bs.length uc, .int .i64 n] := pq_drew HQ.out
  clear hc c0
  refine wp_region_invF (β := Value × Value × Value × Value × Value × Value × Value × Value × Value × Value × Value × Value × Value × Value) (fun a0 xq => ((((((((((((((a0.put (some 47) (xq.1)).put (some 48) (xq.2.1)).put (some 49) (xq.2.2.1)).put (some 50) (xq.2.2.2.1)).put (some 51) (xq.2.2.2.2.1)).put (some 52) (xq.2.2.2.2.2.1)).put (some 53) (xq.2.2.2.2.2.2.1)).put (some 54) (xq.2.2.2.2.2.2.2.1)).put (some 55) (xq.2.2.2.2.2.2.2.2.1)).put (some 56) (xq.2.2.2.2.2.2.2.2.2.1)).put (some 57) (xq.2.2.2.2.2.2.2.2.2.2.1)).put (some 58) (xq.2.2.2.2.2.2.2.2.2.2.2.1)).put (some 59) (xq.2.2.2.2.2.2.2.2.2.2.2.2.1)).put (some 6) (xq.2.2.2.2.2.2.2.2.2.2.2.2.2))) ?fr47 (fun xq d w' => (BxA w' bx 31 #[.int .i64 K, .string ⟨A.toArray⟩, .string ⟨B.toArray⟩, .slice ua bs.length uc, .int .i64 n]) ∧ ((d 0 = true → (xq.1) = .pointer (some ⟨dp, 0, none⟩)) ∧ (d 1 = true → (xq.2.1) = .pointer (some ⟨bx, 1, none⟩)) ∧ (d 2 = true → (xq.2.2.1) = .string ⟨A.toArray⟩) ∧ (d 3 = true → (xq.2.2.2.1) = .pointer (some ⟨bx, 2, none⟩)) ∧ (d 4 = true → (xq.2.2.2.2.1) = .string ⟨B.toArray⟩) ∧ (d 6 = true → (xq.2.2.2.2.2.2.1) = .pointer (some ⟨rp, 0, none⟩)) ∧ (d 7 = true → (xq.2.2.2.2.2.2.2.1) = .pointer (some ⟨bx, 1, none⟩)) ∧ (d 8 = true → (xq.2.2.2.2.2.2.2.2.1) = .string ⟨A.toArray⟩) ∧ (d 9 = true → (xq.2.2.2.2.2.2.2.2.2.1) = .pointer (some ⟨bx, 2, none⟩)) ∧ (d 10 = true → (xq.2.2.2.2.2.2.2.2.2.2.1) = .string ⟨B.toArray⟩)) ∧ ∃ j : Nat, j ≤ 4 ∧ (d 5 = decide (0 < j) ∧ d 11 = decide (1 < j) ∧ d 12 = decide (2 < j) ∧ d 13 = decide (3 < j)) ∧ ((j = 0 → Pq w0 w' dp rp (m * 2097152) (sd) (tr) bx 31 #[.int .i64 K, .string ⟨A.toArray⟩, .string ⟨B.toArray⟩, .slice ua bs.length uc, .int .i64 n]) ∧ (j = 1 → (xq.2.2.2.2.2.1) = .int .i64 (c : Int) ∧ Pq w0 w' dp rp (m * 2097152) ((sd.rename A B).2) (tr) bx 31 #[.int .i64 K, .string ⟨A.toArray⟩, .string ⟨B.toArray⟩, .slice ua bs.length uc, .int .i64 n]) ∧ (j = 2 → (xq.2.2.2.2.2.1) = .int .i64 (c : Int) ∧ (xq.2.2.2.2.2.2.2.2.2.2.2.1) = .int .i64 (c : Int) ∧ Pq w0 w' dp rp (m * 2097152) ((sd.rename A B).2) ((rren tr A B).2) bx 31 #[.int .i64 K, .string ⟨A.toArray⟩, .string ⟨B.toArray⟩, .slice ua bs.length uc, .int .i64 n]) ∧ (j = 3 → (xq.2.2.2.2.2.2.2.2.2.2.2.2.1) = .bool true ∧ Pq w0 w' dp rp (m * 2097152) ((sd.rename A B).2) ((rren tr A B).2) bx 31 #[.int .i64 K, .string ⟨A.toArray⟩, .string ⟨B.toArray⟩, .slice ua bs.length uc, .int .i64 n]) ∧ (j = 4 → (xq.2.2.2.2.2.2.2.2.2.2.2.2.2) = .bool true ∧ Pq w0 w' dp rp (m * 2097152) ((sd.rename A B).2) ((rren tr A B).2) bx 31 #[.int .i64 K, .string ⟨A.toArray⟩, .string ⟨B.toArray⟩, .slice ua bs.length uc, .int .i64 n]))) ?lay47 mixed (by kernel_rfl) ?h047 ?hs47 ?he47
  case lay47 =>
    intro xq
    simp only [Act.put, List.setIfInBounds_toArray, List.set_cons_zero, List.set_cons_succ]
    rfl
  case h047 =>
    refine ⟨(undef, undef, undef, undef, undef, undef, undef, undef, undef, undef, undef, undef, undef, .bool false), rfl, ?sig47, ⟨(fun h => by cases h), (fun h => by cases h), (fun h => by cases h), (fun h => by cases h), (fun h => by cases h), (fun h => by cases h), (fun h => by cases h), (fun h => by cases h), (fun h => by cases h), (fun h => by cases h)⟩, 0, Nat.zero_le _, ⟨rfl, rfl, rfl, rfl⟩, ?S047, (fun h => by cases h), (fun h => by cases h), (fun h => by cases h), (fun h => by cases h)⟩
    case sig47 => exact hSig0
    case S047 => exact fun _ => hS00
  case hs47 =>
    refine ⟨?_, ?_, ?_, ?_, ?_, ?_, ?_, ?_, ?_, ?_, ?_, ?_, ?_, ?_, trivial⟩
    · rintro d ⟨x47, x48, x49, x50, x51, x52, x53, x54, x55, x56, x57, x58, x59, x6⟩ w' hI hd hdp KQ hK
      dsimp only at hI
      obtain ⟨hS, ⟨f0, f1, f2, f3, f4, f6, f7, f8, f9, f10⟩, j, hj, ⟨dd5, dd11, dd12, dd13⟩, ⟨p0, p1, p2, p3, p4⟩⟩ := hI
      have HF : Hid _ := And.intro hS (And.intro (And.intro f0 (And.intro f1 (And.intro f2 (And.intro f3 (And.intro f4 (And.intro f6 (And.intro f7 (And.intro f8 (And.intro f9 f10))))))))) (And.intro hj (And.intro (And.intro dd5 (And.intro dd11 (And.intro dd12 dd13))) (And.intro p0 (And.intro p1 (And.intro p2 (And.intro p3 p4)))))))
      clear hS f0 f1 f2 f3 f4 f6 f7 f8 f9 f10 hj dd5 dd11 dd12 dd13 p0 p1 p2 p3 p4 hdp hd
      refine Opn.mk ?_
      dsimp only
      go_simp
      obtain ⟨hS, ⟨f0, f1, f2, f3, f4, f6, f7, f8, f9, f10⟩, hj, ⟨dd5, dd11, dd12, dd13⟩, ⟨p0, p1, p2, p3, p4⟩⟩ := HF.out
      exact hK.out (.pointer (some ⟨dp, 0, none⟩), x48, x49, x50, x51, x52, x53, x54, x55, x56, x57, x58, x59, x6) _ ⟨hS, ⟨(fun _ => rfl), (fun h => f1 (upd_ne h (by decide))), (fun h => f2 (upd_ne h (by decide))), (fun h => f3 (upd_ne h (by decide))), (fun h => f4 (upd_ne h (by decide))), (fun h => f6 (upd_ne h (by decide))), (fun h => f7 (upd_ne h (by decide))), (fun h => f8 (upd_ne h (by decide))), (fun h => f9 (upd_ne h (by decide))), (fun h => f10 (upd_ne h (by decide)))⟩, j, hj, ⟨((upd_no (by decide)).trans dd5), ((upd_no (by decide)).trans dd11), ((upd_no (by decide)).trans dd12), ((upd_no (by decide)).trans dd13)⟩, ⟨p0, p1, p2, p3, p4⟩⟩
    · rintro d ⟨x47, x48, x49, x50, x51, x52, x53, x54, x55, x56, x57, x58, x59, x6⟩ w' hI hd hdp KQ hK
      dsimp only at hI
      obtain ⟨hS, ⟨f0, f1, f2, f3, f4, f6, f7, f8, f9, f10⟩, j, hj, ⟨dd5, dd11, dd12, dd13⟩, ⟨p0, p1, p2, p3, p4⟩⟩ := hI
      have HF : Hid _ := And.intro hS (And.intro (And.intro f0 (And.intro f1 (And.intro f2 (And.intro f3 (And.intro f4 (And.intro f6 (And.intro f7 (And.intro f8 (And.intro f9 f10))))))))) (And.intro hj (And.intro (And.intro dd5 (And.intro dd11 (And.intro dd12 dd13))) (And.intro p0 (And.intro p1 (And.intro p2 (And.intro p3 p4)))))))
      clear hS f0 f1 f2 f3 f4 f6 f7 f8 f9 f10 hj dd5 dd11 dd12 dd13 p0 p1 p2 p3 p4 hdp hd
      refine Opn.mk ?_
      dsimp only
      go_simp
      obtain ⟨hS, ⟨f0, f1, f2, f3, f4, f6, f7, f8, f9, f10⟩, hj, ⟨dd5, dd11, dd12, dd13⟩, ⟨p0, p1, p2, p3, p4⟩⟩ := HF.out
      exact hK.out (x47, .pointer (some ⟨bx, 1, none⟩), x49, x50, x51, x52, x53, x54, x55, x56, x57, x58, x59, x6) _ ⟨hS, ⟨(fun h => f0 (upd_ne h (by decide))), (fun _ => rfl), (fun h => f2 (upd_ne h (by decide))), (fun h => f3 (upd_ne h (by decide))), (fun h => f4 (upd_ne h (by decide))), (fun h => f6 (upd_ne h (by decide))), (fun h => f7 (upd_ne h (by decide))), (fun h => f8 (upd_ne h (by decide))), (fun h => f9 (upd_ne h (by decide))), (fun h => f10 (upd_ne h (by decide)))⟩, j, hj, ⟨((upd_no (by decide)).trans dd5), ((upd_no (by decide)).trans dd11), ((upd_no (by decide)).trans dd12), ((upd_no (by decide)).trans dd13)⟩, ⟨p0, p1, p2, p3, p4⟩⟩
    · rintro d ⟨x47, x48, x49, x50, x51, x52, x53, x54, x55, x56, x57, x58, x59, x6⟩ w' hI hd hdp KQ hK
      dsimp only at hI
      obtain ⟨hS, ⟨f0, f1, f2, f3, f4, f6, f7, f8, f9, f10⟩, j, hj, ⟨dd5, dd11, dd12, dd13⟩, ⟨p0, p1, p2, p3, p4⟩⟩ := hI
      obtain rfl := f1 (hdp 1 (by decide +kernel))
      have cc : w'.cell? ⟨bx, 1, none⟩ = some (.string ⟨A.toArray⟩) := BxA.cell hS 1 _ rfl
      have HF : Hid _ := And.intro hS (And.intro (And.intro f0 (And.intro f1 (And.intro f2 (And.intro f3 (And.intro f4 (And.intro f6 (And.intro f7 (And.intro f8 (And.intro f9 f10))))))))) (And.intro hj (And.intro (And.intro dd5 (And.intro dd11 (And.intro dd12 dd13))) (And.intro p0 (And.intro p1 (And.intro p2 (And.intro p3 p4)))))))
      clear hS f0 f1 f2 f3 f4 f6 f7 f8 f9 f10 hj dd5 dd11 dd12 dd13 p0 p1 p2 p3 p4 hdp hd
      refine Opn.mk ?_
      dsimp only
      go_simp
      obtain ⟨hS, ⟨f0, f1, f2, f3, f4, f6, f7, f8, f9, f10⟩, hj, ⟨dd5, dd11, dd12, dd13⟩, ⟨p0, p1, p2, p3, p4⟩⟩ := HF.out
      exact hK.out (x47, .pointer (some ⟨bx, 1, none⟩), .string ⟨A.toArray⟩, x50, x51, x52, x53, x54, x55, x56, x57, x58, x59, x6) _ ⟨hS, ⟨(fun h => f0 (upd_ne h (by decide))), (fun _ => rfl), (fun _ => rfl), (fun h => f3 (upd_ne h (by decide))), (fun h => f4 (upd_ne h (by decide))), (fun h => f6 (upd_ne h (by decide))), (fun h => f7 (upd_ne h (by decide))), (fun h => f8 (upd_ne h (by decide))), (fun h => f9 (upd_ne h (by decide))), (fun h => f10 (upd_ne h (by decide)))⟩, j, hj, ⟨((upd_no (by decide)).trans dd5), ((upd_no (by decide)).trans dd11), ((upd_no (by decide)).trans dd12), ((upd_no (by decide)).trans dd13)⟩, ⟨p0, p1, p2, p3, p4⟩⟩
    · rintro d ⟨x47, x48, x49, x50, x51, x52, x53, x54, x55, x56, x57, x58, x59, x6⟩ w' hI hd hdp KQ hK
      dsimp only at hI
      obtain ⟨hS, ⟨f0, f1, f2, f3, f4, f6, f7, f8, f9, f10⟩, j, hj, ⟨dd5, dd11, dd12, dd13⟩, ⟨p0, p1, p2, p3, p4⟩⟩ := hI
      have HF : Hid _ := And.intro hS (And.intro (And.intro f0 (And.intro f1 (And.intro f2 (And.intro f3 (And.intro f4 (And.intro f6 (And.intro f7 (And.intro f8 (And.intro f9 f10))))))))) (And.intro hj (And.intro (And.intro dd5 (And.intro dd11 (And.intro dd12 dd13))) (And.intro p0 (And.intro p1 (And.intro p2 (And.intro p3 p4)))))))
      clear hS f0 f1 f2 f3 f4 f6 f7 f8 f9 f10 hj dd5 dd11 dd12 dd13 p0 p1 p2 p3 p4 hdp hd
      refine Opn.mk ?_
      dsimp only
      go_simp
      obtain ⟨hS, ⟨f0, f1, f2, f3, f4, f6, f7, f8, f9, f10⟩, hj, ⟨dd5, dd11, dd12, dd13⟩, ⟨p0, p1, p2, p3, p4⟩⟩ := HF.out
      exact hK.out (x47, x48, x49, .pointer (some ⟨bx, 2, none⟩), x51, x52, x53, x54, x55, x56, x57, x58, x59, x6) _ ⟨hS, ⟨(fun h => f0 (upd_ne h (by decide))), (fun h => f1 (upd_ne h (by decide))), (fun h => f2 (upd_ne h (by decide))), (fun _ => rfl), (fun h => f4 (upd_ne h (by decide))), (fun h => f6 (upd_ne h (by decide))), (fun h => f7 (upd_ne h (by decide))), (fun h => f8 (upd_ne h (by decide))), (fun h => f9 (upd_ne h (by decide))), (fun h => f10 (upd_ne h (by decide)))⟩, j, hj, ⟨((upd_no (by decide)).trans dd5), ((upd_no (by decide)).trans dd11), ((upd_no (by decide)).trans dd12), ((upd_no (by decide)).trans dd13)⟩, ⟨p0, p1, p2, p3, p4⟩⟩
    · rintro d ⟨x47, x48, x49, x50, x51, x52, x53, x54, x55, x56, x57, x58, x59, x6⟩ w' hI hd hdp KQ hK
      dsimp only at hI
      obtain ⟨hS, ⟨f0, f1, f2, f3, f4, f6, f7, f8, f9, f10⟩, j, hj, ⟨dd5, dd11, dd12, dd13⟩, ⟨p0, p1, p2, p3, p4⟩⟩ := hI
      obtain rfl := f3 (hdp 3 (by decide +kernel))
      have cc : w'.cell? ⟨bx, 2, none⟩ = some (.string ⟨B.toArray⟩) := BxA.cell hS 2 _ rfl
      have HF : Hid _ := And.intro hS (And.intro (And.intro f0 (And.intro f1 (And.intro f2 (And.intro f3 (And.intro f4 (And.intro f6 (And.intro f7 (And.intro f8 (And.intro f9 f10))))))))) (And.intro hj (And.intro (And.intro dd5 (And.intro dd11 (And.intro dd12 dd13))) (And.intro p0 (And.intro p1 (And.intro p2 (And.intro p3 p4)))))))
      clear hS f0 f1 f2 f3 f4 f6 f7 f8 f9 f10 hj dd5 dd11 dd12 dd13 p0 p1 p2 p3 p4 hdp hd
      refine Opn.mk ?_
      dsimp only
      go_simp
      obtain ⟨hS, ⟨f0, f1, f2, f3, f4, f6, f7, f8, f9, f10⟩, hj, ⟨dd5, dd11, dd12, dd13⟩, ⟨p0, p1, p2, p3, p4⟩⟩ := HF.out
      exact hK.out (x47, x48, x49, .pointer (some ⟨bx, 2, none⟩), .string ⟨B.toArray⟩, x52, x53, x54, x55, x56, x57, x58, x59, x6) _ ⟨hS, ⟨(fun h => f0 (upd_ne h (by decide))), (fun h => f1 (upd_ne h (by decide))), (fun h => f2 (upd_ne h (by decide))), (fun _ => rfl), (fun _ => rfl), (fun h => f6 (upd_ne h (by decide))), (fun h => f7 (upd_ne h (by decide))), (fun h => f8 (upd_ne h (by decide))), (fun h => f9 (upd_ne h (by decide))), (fun h => f10 (upd_ne h (by decide)))⟩, j, hj, ⟨((upd_no (by decide)).trans dd5), ((upd_no (by decide)).trans dd11), ((upd_no (by decide)).trans dd12), ((upd_no (by decide)).trans dd13)⟩, ⟨p0, p1, p2, p3, p4⟩⟩
    · rintro d ⟨x47, x48, x49, x50, x51, x52, x53, x54, x55, x56, x57, x58, x59, x6⟩ w' hI hd hdp KQ hK
      dsimp only at hI
      obtain ⟨hS, ⟨f0, f1, f2, f3, f4, f6, f7, f8, f9, f10⟩, j, hj, ⟨dd5, dd11, dd12, dd13⟩, ⟨p0, p1, p2, p3, p4⟩⟩ := hI
      obtain rfl := f0 (hdp 0 (by decide +kernel))
      obtain rfl := f2 (hdp 2 (by decide +kernel))
      obtain rfl := f4 (hdp 4 (by decide +kernel))
      obtain rfl := ph_zero dd5 hd
      have s := p0 rfl
      clear p0 p1 p2 p3 p4 hj
      have kk := pq_rename s A B HN.out.2.2.1 HN.out.2.2.2.1 HN.out.2.2.2.2.1
      rw [HC1.out] at kk
      have HG : Hid _ := And.intro hS s
      clear hS s
      have HF : Hid _ := And.intro (And.intro f0 (And.intro f1 (And.intro f2 (And.intro f3 (And.intro f4 (And.intro f6 (And.intro f7 (And.intro f8 (And.intro f9 f10))))))))) (And.intro dd5 (And.intro dd11 (And.intro dd12 dd13)))
      clear f0 f1 f2 f3 f4 f6 f7 f8 f9 f10 dd5 dd11 dd12 dd13 hdp hd
      refine Opn.mk ?_
      dsimp only
      go_simp
      go_wp2_with (first | (go_at_call 25; with_reducible refine kk.mono ?_; rintro e5 w5 ⟨rfl, G5⟩))
      obtain ⟨hS, s⟩ := HG.out
      obtain ⟨⟨f0, f1, f2, f3, f4, f6, f7, f8, f9, f10⟩, ⟨dd5, dd11, dd12, dd13⟩⟩ := HF.out
      refine hK.out (.pointer (some ⟨dp, 0, none⟩), x48, .string ⟨A.toArray⟩, x50, .string ⟨B.toArray⟩, .int .i64 (c : Int), x53, x54, x55, x56, x57, x58, x59, x6) _ ⟨?sg, ⟨(fun _ => rfl), (fun h => f1 (upd_ne h (by decide))), (fun _ => rfl), (fun h => f3 (upd_ne h (by decide))), (fun _ => rfl), (fun h => f6 (upd_ne h (by decide))), (fun h => f7 (upd_ne h (by decide))), (fun h => f8 (upd_ne h (by decide))), (fun h => f9 (upd_ne h (by decide))), (fun h => f10 (upd_ne h (by decide)))⟩, 1, by decide, ⟨(by simp [upd]), ((upd_no (by decide)).trans (dd11.trans (by decide))), ((upd_no (by decide)).trans (dd12.trans (by decide))), ((upd_no (by decide)).trans (dd13.trans (by decide)))⟩, ⟨(fun h => absurd h (by decide)), (fun _ => ?new), (fun h => absurd h (by decide)), (fun h => absurd h (by decide)), (fun h => absurd h (by decide))⟩⟩
      case sg => exact G5.box
      case new =>
        exact ⟨rfl, G5⟩
    · rintro d ⟨x47, x48, x49, x50, x51, x52, x53, x54, x55, x56, x57, x58, x59, x6⟩ w' hI hd hdp KQ hK
      dsimp only at hI
      obtain ⟨hS, ⟨f0, f1, f2, f3, f4, f6, f7, f8, f9, f10⟩, j, hj, ⟨dd5, dd11, dd12, dd13⟩, ⟨p0, p1, p2, p3, p4⟩⟩ := hI
      have HF : Hid _ := And.intro hS (And.intro (And.intro f0 (And.intro f1 (And.intro f2 (And.intro f3 (And.intro f4 (And.intro f6 (And.intro f7 (And.intro f8 (And.intro f9 f10))))))))) (And.intro hj (And.intro (And.intro dd5 (And.intro dd11 (And.intro dd12 dd13))) (And.intro p0 (And.intro p1 (And.intro p2 (And.intro p3 p4)))))))
      clear hS f0 f1 f2 f3 f4 f6 f7 f8 f9 f10 hj dd5 dd11 dd12 dd13 p0 p1 p2 p3 p4 hdp hd
      refine Opn.mk ?_
      dsimp only
      go_simp
      obtain ⟨hS, ⟨f0, f1, f2, f3, f4, f6, f7, f8, f9, f10⟩, hj, ⟨dd5, dd11, dd12, dd13⟩, ⟨p0, p1, p2, p3, p4⟩⟩ := HF.out
      exact hK.out (x47, x48, x49, x50, x51, x52, .pointer (some ⟨rp, 0, none⟩), x54, x55, x56, x57, x58, x59, x6) _ ⟨hS, ⟨(fun h => f0 (upd_ne h (by decide))), (fun h => f1 (upd_ne h (by decide))), (fun h => f2 (upd_ne h (by decide))), (fun h => f3 (upd_ne h (by decide))), (fun h => f4 (upd_ne h (by decide))), (fun _ => rfl), (fun h => f7 (upd_ne h (by decide))), (fun h => f8 (upd_ne h (by decide))), (fun h => f9 (upd_ne h (by decide))), (fun h => f10 (upd_ne h (by decide)))⟩, j, hj, ⟨((upd_no (by decide)).trans dd5), ((upd_no (by decide)).trans dd11), ((upd_no (by decide)).trans dd12), ((upd_no (by decide)).trans dd13)⟩, ⟨p0, p1, p2, p3, p4⟩⟩
    · rintro d ⟨x47, x48, x49, x50, x51, x52, x53, x54, x55, x56, x57, x58, x59, x6⟩ w' hI hd hdp KQ hK
      dsimp only at hI
      obtain ⟨hS, ⟨f0, f1, f2, f3, f4, f6, f7, f8, f9, f10⟩, j, hj, ⟨dd5, dd11, dd12, dd13⟩, ⟨p0, p1, p2, p3, p4⟩⟩ := hI
      have HF : Hid _ := And.intro hS (And.intro (And.intro f0 (And.intro f1 (And.intro f2 (And.intro f3 (And.intro f4 (And.intro f6 (And.intro f7 (And.intro f8 (And.intro f9 f10))))))))) (And.intro hj (And.intro (And.intro dd5 (And.intro dd11 (And.intro dd12 dd13))) (And.intro p0 (And.intro p1 (And.intro p2 (And.intro p3 p4)))))))
      clear hS f0 f1 f2 f3 f4 f6 f7 f8 f9 f10 hj dd5 dd11 dd12 dd13 p0 p1 p2 p3 p4 hdp hd
      refine Opn.mk ?_
      dsimp only
      go_simp
      obtain ⟨hS, ⟨f0, f1, f2, f3, f4, f6, f7, f8, f9, f10⟩, hj, ⟨dd5, dd11, dd12, dd13⟩, ⟨p0, p1, p2, p3, p4⟩⟩ := HF.out
      exact hK.out (x47, x48, x49, x50, x51, x52, x53, .pointer (some ⟨bx, 1, none⟩), x55, x56, x57, x58, x59, x6) _ ⟨hS, ⟨(fun h => f0 (upd_ne h (by decide))), (fun h => f1 (upd_ne h (by decide))), (fun h => f2 (upd_ne h (by decide))), (fun h => f3 (upd_ne h (by decide))), (fun h => f4 (upd_ne h (by decide))), (fun h => f6 (upd_ne h (by decide))), (fun _ => rfl), (fun h => f8 (upd_ne h (by decide))), (fun h => f9 (upd_ne h (by decide))), (fun h => f10 (upd_ne h (by decide)))⟩, j, hj, ⟨((upd_no (by decide)).trans dd5), ((upd_no (by decide)).trans dd11), ((upd_no (by decide)).trans dd12), ((upd_no (by decide)).trans dd13)⟩, ⟨p0, p1, p2, p3, p4⟩⟩
    · rintro d ⟨x47, x48, x49, x50, x51, x52, x53, x54, x55, x56, x57, x58, x59, x6⟩ w' hI hd hdp KQ hK
      dsimp only at hI
      obtain ⟨hS, ⟨f0, f1, f2, f3, f4, f6, f7, f8, f9, f10⟩, j, hj, ⟨dd5, dd11, dd12, dd13⟩, ⟨p0, p1, p2, p3, p4⟩⟩ := hI
      obtain rfl := f7 (hdp 7 (by decide +kernel))
      have cc : w'.cell? ⟨bx, 1, none⟩ = some (.string ⟨A.toArray⟩) := BxA.cell hS 1 _ rfl
      have HF : Hid _ := And.intro hS (And.intro (And.intro f0 (And.intro f1 (And.intro f2 (And.intro f3 (And.intro f4 (And.intro f6 (And.intro f7 (And.intro f8 (And.intro f9 f10))))))))) (And.intro hj (And.intro (And.intro dd5 (And.intro dd11 (And.intro dd12 dd13))) (And.intro p0 (And.intro p1 (And.intro p2 (And.intro p3 p4)))))))
      clear hS f0 f1 f2 f3 f4 f6 f7 f8 f9 f10 hj dd5 dd11 dd12 dd13 p0 p1 p2 p3 p4 hdp hd
      refine Opn.mk ?_
      dsimp only
      go_simp
      obtain ⟨hS, ⟨f0, f1, f2, f3, f4, f6, f7, f8, f9, f10⟩, hj, ⟨dd5, dd11, dd12, dd13⟩, ⟨p0, p1, p2, p3, p4⟩⟩ := HF.out
      exact hK.out (x47, x48, x49, x50, x51, x52, x53, .pointer (some ⟨bx, 1, none⟩), .string ⟨A.toArray⟩, x56, x57, x58, x59, x6) _ ⟨hS, ⟨(fun h => f0 (upd_ne h (by decide))), (fun h => f1 (upd_ne h (by decide))), (fun h => f2 (upd_ne h (by decide))), (fun h => f3 (upd_ne h (by decide))), (fun h => f4 (upd_ne h (by decide))), (fun h => f6 (upd_ne h (by decide))), (fun _ => rfl), (fun _ => rfl), (fun h => f9 (upd_ne h (by decide))), (fun h => f10 (upd_ne h (by decide)))⟩, j, hj, ⟨((upd_no (by decide)).trans dd5), ((upd_no (by decide)).trans dd11), ((upd_no (by decide)).trans dd12), ((upd_no (by decide)).trans dd13)⟩, ⟨p0, p1, p2, p3, p4⟩⟩
    · rintro d ⟨x47, x48, x49, x50, x51, x52, x53, x54, x55, x56, x57, x58, x59, x6⟩ w' hI hd hdp KQ hK
      dsimp only at hI
      obtain ⟨hS, ⟨f0, f1, f2, f3, f4, f6, f7, f8, f9, f10⟩, j, hj, ⟨dd5, dd11, dd12, dd13⟩, ⟨p0, p1, p2, p3, p4⟩⟩ := hI
      have HF : Hid _ := And.intro hS (And.intro (And.intro f0 (And.intro f1 (And.intro f2 (And.intro f3 (And.intro f4 (And.intro f6 (And.intro f7 (And.intro f8 (And.intro f9 f10))))))))) (And.intro hj (And.intro (And.intro dd5 (And.intro dd11 (And.intro dd12 dd13))) (And.intro p0 (And.intro p1 (And.intro p2 (And.intro p3 p4)))))))
      clear hS f0 f1 f2 f3 f4 f6 f7 f8 f9 f10 hj dd5 dd11 dd12 dd13 p0 p1 p2 p3 p4 hdp hd
      refine Opn.mk ?_
      dsimp only
      go_simp
      obtain ⟨hS, ⟨f0, f1, f2, f3, f4, f6, f7, f8, f9, f10⟩, hj, ⟨dd5, dd11, dd12, dd13⟩, ⟨p0, p1, p2, p3, p4⟩⟩ := HF.out
      exact hK.out (x47, x48, x49, x50, x51, x52, x53, x54, x55, .pointer (some ⟨bx, 2, none⟩), x57, x58, x59, x6) _ ⟨hS, ⟨(fun h => f0 (upd_ne h (by decide))), (fun h => f1 (upd_ne h (by decide))), (fun h => f2 (upd_ne h (by decide))), (fun h => f3 (upd_ne h (by decide))), (fun h => f4 (upd_ne h (by decide))), (fun h => f6 (upd_ne h (by decide))), (fun h => f7 (upd_ne h (by decide))), (fun h => f8 (upd_ne h (by decide))), (fun _ => rfl), (fun h => f10 (upd_ne h (by decide)))⟩, j, hj, ⟨((upd_no (by decide)).trans dd5), ((upd_no (by decide)).trans dd11), ((upd_no (by decide)).trans dd12), ((upd_no (by decide)).trans dd13)⟩, ⟨p0, p1, p2, p3, p4⟩⟩
    · rintro d ⟨x47, x48, x49, x50, x51, x52, x53, x54, x55, x56, x57, x58, x59, x6⟩ w' hI hd hdp KQ hK
      dsimp only at hI
      obtain ⟨hS, ⟨f0, f1, f2, f3, f4, f6, f7, f8, f9, f10⟩, j, hj, ⟨dd5, dd11, dd12, dd13⟩, ⟨p0, p1, p2, p3, p4⟩⟩ := hI
      obtain rfl := f9 (hdp 9 (by decide +kernel))
      have cc : w'.cell? ⟨bx, 2, none⟩ = some (.string ⟨B.toArray⟩) := BxA.cell hS 2 _ rfl
      have HF : Hid _ := And.intro hS (And.intro (And.intro f0 (And.intro f1 (And.intro f2 (And.intro f3 (And.intro f4 (And.intro f6 (And.intro f7 (And.intro f8 (And.intro f9 f10))))))))) (And.intro hj (And.intro (And.intro dd5 (And.intro dd11 (And.intro dd12 dd13))) (And.intro p0 (And.intro p1 (And.intro p2 (And.intro p3 p4)))))))
      clear hS f0 f1 f2 f3 f4 f6 f7 f8 f9 f10 hj dd5 dd11 dd12 dd13 p0 p1 p2 p3 p4 hdp hd
      refine Opn.mk ?_
      dsimp only
      go_simp
      obtain ⟨hS, ⟨f0, f1, f2, f3, f4, f6, f7, f8, f9, f10⟩, hj, ⟨dd5, dd11, dd12, dd13⟩, ⟨p0, p1, p2, p3, p4⟩⟩ := HF.out
      exact hK.out (x47, x48, x49, x50, x51, x52, x53, x54, x55, .pointer (some ⟨bx, 2, none⟩), .string ⟨B.toArray⟩, x58, x59, x6) _ ⟨hS, ⟨(fun h => f0 (upd_ne h (by decide))), (fun h => f1 (upd_ne h (by decide))), (fun h => f2 (upd_ne h (by decide))), (fun h => f3 (upd_ne h (by decide))), (fun h => f4 (upd_ne h (by decide))), (fun h => f6 (upd_ne h (by decide))), (fun h => f7 (upd_ne h (by decide))), (fun h => f8 (upd_ne h (by decide))), (fun _ => rfl), (fun _ => rfl)⟩, j, hj, ⟨((upd_no (by decide)).trans dd5), ((upd_no (by decide)).trans dd11), ((upd_no (by decide)).trans dd12), ((upd_no (by decide)).trans dd13)⟩, ⟨p0, p1, p2, p3, p4⟩⟩
    · rintro d ⟨x47, x48, x49, x50, x51, x52, x53, x54, x55, x56, x57, x58, x59, x6⟩ w' hI hd hdp KQ hK
      dsimp only at hI
      obtain ⟨hS, ⟨f0, f1, f2, f3, f4, f6, f7, f8, f9, f10⟩, j, hj, ⟨dd5, dd11, dd12, dd13⟩, ⟨p0, p1, p2, p3, p4⟩⟩ := hI
      obtain rfl := f6 (hdp 6 (by decide +kernel))
      obtain rfl := f8 (hdp 8 (by decide +kernel))
      obtain rfl := f10 (hdp 10 (by decide +kernel))
      obtain rfl := ph_eq (k := 0) dd11 hd dd5 (hdp 5 (by decide +kernel))
      have s := p1 rfl
      clear p0 p1 p2 p3 p4 hj
      obtain ⟨ea, s⟩ := s
      have kk := pq_rrename s A B HN.out.2.2.1 HN.out.2.2.2.1 HNN.out.1 HN.out.2.2.2.2.2.1 HN.out.2.2.2.2.2.2.1 HN.out.2.2.2.2.2.2.2
      rw [HC2.out] at kk
      have HG : Hid _ := And.intro hS (And.intro ea s)
      clear hS s ea
      have HF : Hid _ := And.intro (And.intro f0 (And.intro f1 (And.intro f2 (And.intro f3 (And.intro f4 (And.intro f6 (And.intro f7 (And.intro f8 (And.intro f9 f10))))))))) (And.intro dd5 (And.intro dd11 (And.intro dd12 dd13)))
      clear f0 f1 f2 f3 f4 f6 f7 f8 f9 f10 dd5 dd11 dd12 dd13 hdp hd
      refine Opn.mk ?_
      dsimp only
      go_simp
      go_wp2_with (first | (go_at_call 33; with_reducible refine kk.mono ?_; rintro e5 w5 ⟨rfl, G5⟩))
      obtain ⟨hS, ea, s⟩ := HG.out
      obtain ⟨⟨f0, f1, f2, f3, f4, f6, f7, f8, f9, f10⟩, ⟨dd5, dd11, dd12, dd13⟩⟩ := HF.out
      refine hK.out (x47, x48, x49, x50, x51, x52, .pointer (some ⟨rp, 0, none⟩), x54, .string ⟨A.toArray⟩, x56, .string ⟨B.toArray⟩, .int .i64 (c : Int), x59, x6) _ ⟨?sg, ⟨(fun h => f0 (upd_ne h (by decide))), (fun h => f1 (upd_ne h (by decide))), (fun h => f2 (upd_ne h (by decide))), (fun h => f3 (upd_ne h (by decide))), (fun h => f4 (upd_ne h (by decide))), (fun _ => rfl), (fun h => f7 (upd_ne h (by decide))), (fun _ => rfl), (fun h => f9 (upd_ne h (by decide))), (fun _ => rfl)⟩, 2, by decide, ⟨((upd_no (by decide)).trans (dd5.trans (by decide))), (by simp [upd]), ((upd_no (by decide)).trans (dd12.trans (by decide))), ((upd_no (by decide)).trans (dd13.trans (by decide)))⟩, ⟨(fun h => absurd h (by decide)), (fun h => absurd h (by decide)), (fun _ => ?new), (fun h => absurd h (by decide)), (fun h => absurd h (by decide))⟩⟩
      case sg => exact G5.box
      case new =>
        exact ⟨ea, rfl, G5⟩
    · rintro d ⟨x47, x48, x49, x50, x51, x52, x53, x54, x55, x56, x57, x58, x59, x6⟩ w' hI hd hdp KQ hK
      dsimp only at hI
      obtain ⟨hS, ⟨f0, f1, f2, f3, f4, f6, f7, f8, f9, f10⟩, j, hj, ⟨dd5, dd11, dd12, dd13⟩, ⟨p0, p1, p2, p3, p4⟩⟩ := hI
      obtain rfl := ph_eq (k := 1) dd12 hd dd11 (hdp 11 (by decide +kernel))
      have s := p2 rfl
      clear p0 p1 p2 p3 p4 hj
      obtain ⟨ea, eb, s⟩ := s
      subst ea
      subst eb
      have HG : Hid _ := And.intro hS s
      clear hS s
      have HF : Hid _ := And.intro (And.intro f0 (And.intro f1 (And.intro f2 (And.intro f3 (And.intro f4 (And.intro f6 (And.intro f7 (And.intro f8 (And.intro f9 f10))))))))) (And.intro dd5 (And.intro dd11 (And.intro dd12 dd13)))
      clear f0 f1 f2 f3 f4 f6 f7 f8 f9 f10 dd5 dd11 dd12 dd13 hdp hd
      refine Opn.mk ?_
      dsimp only
      go_simp
      obtain ⟨hS, s⟩ := HG.out
      obtain ⟨⟨f0, f1, f2, f3, f4, f6, f7, f8, f9, f10⟩, ⟨dd5, dd11, dd12, dd13⟩⟩ := HF.out
      refine hK.out (x47, x48, x49, x50, x51, .int .i64 (c : Int), x53, x54, x55, x56, x57, .int .i64 (c : Int), .bool true, x6) _ ⟨?sg, ⟨(fun h => f0 (upd_ne h (by decide))), (fun h => f1 (upd_ne h (by decide))), (fun h => f2 (upd_ne h (by decide))), (fun h => f3 (upd_ne h (by decide))), (fun h => f4 (upd_ne h (by decide))), (fun h => f6 (upd_ne h (by decide))), (fun h => f7 (upd_ne h (by decide))), (fun h => f8 (upd_ne h (by decide))), (fun h => f9 (upd_ne h (by decide))), (fun h => f10 (upd_ne h (by decide)))⟩, 3, by decide, ⟨((upd_no (by decide)).trans (dd5.trans (by decide))), ((upd_no (by decide)).trans (dd11.trans (by decide))), (by simp [upd]), ((upd_no (by decide)).trans (dd13.trans (by decide)))⟩, ⟨(fun h => absurd h (by decide)), (fun h => absurd h (by decide)), (fun h => absurd h (by decide)), (fun _ => ?new), (fun h => absurd h (by decide))⟩⟩
      case sg => exact hS
      case new =>
        exact ⟨rfl, s⟩
    · rintro d ⟨x47, x48, x49, x50, x51, x52, x53, x54, x55, x56, x57, x58, x59, x6⟩ w' hI hd hdp KQ hK
      dsimp only at hI
      obtain ⟨hS, ⟨f0, f1, f2, f3, f4, f6, f7, f8, f9, f10⟩, j, hj, ⟨dd5, dd11, dd12, dd13⟩, ⟨p0, p1, p2, p3, p4⟩⟩ := hI
      obtain rfl := ph_eq (k := 2) dd13 hd dd12 (hdp 12 (by decide +kernel))
      have s := p3 rfl
      clear p0 p1 p2 p3 p4 hj
      obtain ⟨ea, s⟩ := s
      subst ea
      have HG : Hid _ := And.intro hS s
      clear hS s
      have HF : Hid _ := And.intro (And.intro f0 (And.intro f1 (And.intro f2 (And.intro f3 (And.intro f4 (And.intro f6 (And.intro f7 (And.intro f8 (And.intro f9 f10))))))))) (And.intro dd5 (And.intro dd11 (And.intro dd12 dd13)))
      clear f0 f1 f2 f3 f4 f6 f7 f8 f9 f10 dd5 dd11 dd12 dd13 hdp hd
      refine Opn.mk ?_
      dsimp only
      go_simp
      obtain ⟨hS, s⟩ := HG.out
      obtain ⟨⟨f0, f1, f2, f3, f4, f6, f7, f8, f9, f10⟩, ⟨dd5, dd11, dd12, dd13⟩⟩ := HF.out
      refine hK.out (x47, x48, x49, x50, x51, x52, x53, x54, x55, x56, x57, x58, .bool true, .bool true) _ ⟨?sg, ⟨(fun h => f0 (upd_ne h (by decide))), (fun h => f1 (upd_ne h (by decide))), (fun h => f2 (upd_ne h (by decide))), (fun h => f3 (upd_ne h (by decide))), (fun h => f4 (upd_ne h (by decide))), (fun h => f6 (upd_ne h (by decide))), (fun h => f7 (upd_ne h (by decide))), (fun h => f8 (upd_ne h (by decide))), (fun h => f9 (upd_ne h (by decide))), (fun h => f10 (upd_ne h (by decide)))⟩, 4, by decide, ⟨((upd_no (by decide)).trans (dd5.trans (by decide))), ((upd_no (by decide)).trans (dd11.trans (by decide))), ((upd_no (by decide)).trans (dd12.trans (by decide))), (by simp [upd])⟩, ⟨(fun h => absurd h (by decide)), (fun h => absurd h (by decide)), (fun h => absurd h (by decide)), (fun h => absurd h (by decide)), (fun _ => ?new)⟩⟩
      case sg => exact hS
      case new =>
        exact ⟨rfl, s⟩
  case he47 =>
    rintro d ⟨x47, x48, x49, x50, x51, x52, x53, x54, x55, x56, x57, x58, x59, x6⟩ w' hall hI
    dsimp only at hI
    obtain ⟨hS, ⟨f0, f1, f2, f3, f4, f6, f7, f8, f9, f10⟩, j, hj, ⟨dd5, dd11, dd12, dd13⟩, ⟨p0, p1, p2, p3, p4⟩⟩ := hI
    obtain rfl := ph_end (k := 3) hj dd13 (hall 13 (by decide))
    have s := p4 rfl
    clear hall hj f0 f1 f2 f3 f4 f6 f7 f8 f9 f10 dd5 dd11 dd12 dd13 p0 p1 p2 p3 p4
    obtain ⟨ea, s⟩ := s
    subst ea
    have HG : Hid _ := s
    clear hS s
    dsimp only
    go_wp2_with fail
    go_ret
    exact ⟨rfl, ⟨_, _, Pq.pp (t0 := tr) HG.out (HNN.out.2) (HR.out.rename A B).2 (rren_pt tr A B).2 HB.out.1 (by rw [(rren_pt tr A B).1]; exact HB.out.2.1) (nms_rename HM.out A B)⟩⟩
set_option maxRecDepth 100000 in
set_option maxHeartbeats 3200000 in
theorem both_6 (w0 w : World) (dp rp m : Nat) (sd : St) (tr : RSt) (K n : Int) (A B : Str) (ua : Option Addr) (uc : Nat) (bs : Str) (h : Pp w0 w dp rp m sd tr) (hm : m < 150) (ok : OpM.Ok w0 ⟨K, A, B, .slice ua bs.length uc, bs, n⟩) (hk : absN K % 12 = 6) :
    Calls Try.prog 13 #[.pointer (some ⟨dp, 0, none⟩), .pointer (some ⟨rp, 0, none⟩), .agg #[.int .i64 K, .string ⟨A.toArray⟩, .string ⟨B.toArray⟩, .slice ua bs.length uc, .int .i64 n]] w fun e w' => e = .returned (.bool true) ∧ Bth w0 w' dp rp m := by
  have mixed : Try.prog.follows .mixedOrders = true := by kernel_rfl
  obtain ⟨W, hW⟩ : ∃ W, W = w.alloc (.cells #[.int .i64 K, .string ⟨A.toArray⟩, .string ⟨B.toArray⟩, .slice ua bs.length uc, .int .i64 n] 31) := ⟨_, rfl⟩
  have hq := h.box hW
  have kAb := abs_any W K ok.k1 ok.k2
  have hab : (absN K : Int) % 12 = 6 := by omega
  have HR : Hid (Rel sd tr) := h.rel
  have HM : Hid (NmS sd) := h.nm
  have HB : Hid (tr.n ≤ m ∧ tr.part ≤ 9223372036854775807 ∧ m < 150) := ⟨h.n, h.part, hm⟩
  have HW : Hid (W = w.alloc (.cells #[.int .i64 K, .string ⟨A.toArray⟩, .string ⟨B.toArray⟩, .slice ua bs.length uc, .int .i64 n] 31)) := hW
  have hA : A.length ≤ maxLen := by have := ok.a; simp only at this; unfold maxLen; omega
  have hBl : B.length ≤ maxLen := by have := ok.b; simp only at this; unfold maxLen; omega
  have HOK : Hid (OpM.Ok w0 ⟨K, A, B, .slice ua bs.length uc, bs, n⟩) := ok
  have hN : m * 2097152 + bs.length + bs.length ≤ 140737488355328 := by have := ok.rl; simp only at this; omega
  have hN2 : m * 2097152 + bs.length + bs.length ≤ (m + 1) * 2097152 := by have := ok.rl; simp only at this; omega
  have hop : sd.ops < 1000000 := by have := h.n; have := h.rel.n; omega
  have hopt : tr.n < 1000000 := by have := h.n; omega
  have hpt := h.part
  have hS := h.rel.sp.srt
  have HQ : Hid (Pq w0 W dp rp (m * 2097152) sd tr w.heap.size 31 #[.int .i64 K, .string ⟨A.toArray⟩, .string ⟨B.toArray⟩, .slice ua bs.length uc, .int .i64 n]) := hq
  obtain ⟨bx, hbx⟩ : ∃ b, b = w.heap.size := ⟨_, rfl⟩
  rw [← hbx] at HQ
  have HN : Hid (m * 2097152 + bs.length + bs.length ≤ 140737488355328 ∧ m * 2097152 + bs.length + bs.length ≤ (m + 1) * 2097152 ∧ A.length ≤ maxLen ∧ B.length ≤ maxLen ∧ sd.ops < 1000000 ∧ tr.n < 1000000 ∧ tr.part ≤ 9223372036854775807 ∧ Srt tr.fs) := ⟨hN, hN2, hA, hBl, hop, hopt, hpt, hS⟩
  have HNN : Hid (m * 2097152 ≤ 140737488355328 ∧ m * 2097152 ≤ (m + 1) * 2097152) := by apply hide; omega
  have c0 := HQ.out.box.cell 0 _ rfl
  clear hq h ok hW hm hA hBl hN hN2 hop hopt hpt hS hk
  go_enter Try.func13, Try.ntmps13
  go_wp2_with fail
  rw [← HW.out]
  go_wp2_with fail
  refine kAb.mono ?_
  rintro e wq ⟨rfl, rfl⟩
  clear kAb
  go_upto_region 12 with fail
  rw [← hbx]
  try rw [hab]
  clear hbx hab
  obtain ⟨c, hc⟩ : ∃ c, c = (sd.remove A).1 := ⟨_, rfl⟩
  have HC1 : Hid ((sd.remove A).1 = c) := hc.symm
  have HC2 : Hid ((rrem tr A).1 = c) := by apply hide; rw [hc]; exact (HR.out.remove A).1.symm
  have hSig0 : BxA wq.drew bx 31 #[.int .i64 K, .string ⟨A.toArray⟩, .string ⟨B.toArray⟩, .slice ua bs.length uc, .int .i64 n] := HQ.out.box
  have hS00 : Pq w0 wq.drew dp rp (m * 2097152) sd tr bx 31 #[.int .i64 K, .string ⟨A.toArray⟩, .string ⟨B.toArray⟩, .slice ua bs.length uc, .int .i64 n] := pq_drew HQ.out
  clear hc c0
  refine wp_region_invF (β := Value × Value × Value × Value × Value × Value × Value × Value × Value × Value) (fun a0 xq => ((((((((((a0.put (some 62) (xq.1)).put (some 63) (xq.2.1)).put (some 64) (xq.2.2.1)).put (some 65) (xq.2.2.2.1)).put (some 66) (xq.2.2.2.2.1)).put (some 67) (xq.2.2.2.2.2.1)).put (some 68) (xq.2.2.2.2.2.2.1)).put (some 69) (xq.2.2.2.2.2.2.2.1)).put (some 70) (xq.2.2.2.2.2.2.2.2.1)).put (some 6) (xq.2.2.2.2.2.2.2.2.2))) ?fr62 (fun xq d w' => (BxA w' bx 31 #[.int .i64 K, .string ⟨A.toArray⟩, .string ⟨B.toArray⟩, .slice ua bs.length uc, .int .i64 n]) ∧ ((d 0 = true → (xq.1) = .pointer (some ⟨dp, 0, none⟩)) ∧ (d 1 = true → (xq.2.1) = .pointer (some ⟨bx, 1, none⟩)) ∧ (d 2 = true → (xq.2.2.1) = .string ⟨A.toArray⟩) ∧ (d 4 = true → (xq.2.2.2.2.1) = .pointer (some ⟨rp, 0, none⟩)) ∧ (d 5 = true → (xq.2.2.2.2.2.1) = .pointer (some ⟨bx, 1, none⟩)) ∧ (d 6 = true → (xq.2.2.2.2.2.2.1) = .string ⟨A.toArray⟩)) ∧ ∃ j : Nat, j ≤ 4 ∧ (d 3 = decide (0 < j) ∧ d 7 = decide (1 < j) ∧ d 8 = decide (2 < j) ∧ d 9 = decide (3 < j)) ∧ ((j = 0 → Pq w0 w' dp rp (m * 2097152) (sd) (tr) bx 31 #[.int .i64 K, .string ⟨A.toArray⟩, .string ⟨B.toArray⟩, .slice ua bs.length uc, .int .i64 n]) ∧ (j = 1 → (xq.2.2.2.1) = .int .i64 (c : Int) ∧ Pq w0 w' dp rp (m * 2097152) ((sd.remove A).2) (tr) bx 31 #[.int .i64 K, .string ⟨A.toArray⟩, .string ⟨B.toArray⟩, .slice ua bs.length uc, .int .i64 n]) ∧ (j = 2 → (xq.2.2.2.1) = .int .i64 (c : Int) ∧ (xq.2.2.2.2.2.2.2.1) = .int .i64 (c : Int) ∧ Pq w0 w' dp rp (m * 2097152) ((sd.remove A).2) ((rrem tr A).2) bx 31 #[.int .i64 K, .string ⟨A.toArray⟩, .string ⟨B.toArray⟩, .slice ua bs.length uc, .int .i64 n]) ∧ (j = 3 → (xq.2.2.2.2.2.2.2.2.1) = .bool true ∧ Pq w0 w' dp rp (m * 2097152) ((sd.remove A).2) ((rrem tr A).2) bx 31 #[.int .i64 K, .string ⟨A.toArray⟩, .string ⟨B.toArray⟩, .slice ua bs.length uc, .int .i64 n]) ∧ (j = 4 → (xq.2.2.2.2.2.2.2.2.2) = .bool true ∧ Pq w0 w' dp rp (m * 2097152) ((sd.remove A).2) ((rrem tr A).2) bx 31 #[.int .i64 K, .string ⟨A.toArray⟩, .string ⟨B.toArray⟩, .slice ua bs.length uc, .int .i64 n]))) ?lay62 mixed (by kernel_rfl) ?h062 ?hs62 ?he62
  case lay62 =>
    intro xq
    simp only [Act.put, List.setIfInBounds_toArray, List.set_cons_zero, List.set_cons_succ]
    rfl
  case h062 =>
    refine ⟨(undef, undef, undef, undef, undef, undef, undef, undef, undef, .bool false), rfl, ?sig62, ⟨(fun h => by cases h), (fun h => by cases h), (fun h => by cases h), (fun h => by cases h), (fun h => by cases h), (fun h => by cases h)⟩, 0, Nat.zero_le _, ⟨rfl, rfl, rfl, rfl⟩, ?S062, (fun h => by cases h), (fun h => by cases h), (fun h => by cases h), (fun h => by cases h)⟩
    case sig62 => exact hSig0
    case S062 => exact fun _ => hS00
  case hs62 =>
    refine ⟨?_, ?_, ?_, ?_, ?_, ?_, ?_, ?_, ?_, ?_, trivial⟩
    · rintro d ⟨x62, x63, x64, x65, x66, x67, x68, x69, x70, x6⟩ w' hI hd hdp KQ hK
      dsimp only at hI
      obtain ⟨hS, ⟨f0, f1, f2, f4, f5, f6⟩, j, hj, ⟨dd3, dd7, dd8, dd9⟩, ⟨p0, p1, p2, p3, p4⟩⟩ := hI
      have HF : Hid _ := And.intro hS (And.intro (And.intro f0 (And.intro f1 (And.intro f2 (And.intro f4 (And.intro f5 f6))))) (And.intro hj (And.intro (And.intro dd3 (And.intro dd7 (And.intro dd8 dd9))) (And.intro p0 (And.intro p1 (And.intro p2 (And.intro p3 p4)))))))
      clear hS f0 f1 f2 f4 f5 f6 hj dd3 dd7 dd8 dd9 p0 p1 p2 p3 p4 hdp hd
      refine Opn.mk ?_
      dsimp only
      go_simp
      obtain ⟨hS, ⟨f0, f1, f2, f4, f5, f6⟩, hj, ⟨dd3, dd7, dd8, dd9⟩, ⟨p0, p1, p2, p3, p4⟩⟩ := HF.out
      exact hK.out (.pointer (some ⟨dp, 0, none⟩), x63, x64, x65, x66, x67, x68, x69, x70, x6) _ ⟨hS, ⟨(fun _ => rfl), (fun h => f1 (upd_ne h (by decide))), (fun h => f2 (upd_ne h (by decide))), (fun h => f4 (upd_ne h (by decide))), (fun h => f5 (upd_ne h (by decide))), (fun h => f6 (upd_ne h (by decide)))⟩, j, hj, ⟨((upd_no (by decide)).trans dd3), ((upd_no (by decide)).trans dd7), ((upd_no (by decide)).trans dd8), ((upd_no (by decide)).trans dd9)⟩, ⟨p0, p1, p2, p3, p4⟩⟩
    · rintro d ⟨x62, x63, x64, x65, x66, x67, x68, x69, x70, x6⟩ w' hI hd hdp KQ hK
      dsimp only at hI
      obtain ⟨hS, ⟨f0, f1, f2, f4, f5, f6⟩, j, hj, ⟨dd3, dd7, dd8, dd9⟩, ⟨p0, p1, p2, p3, p4⟩⟩ := hI
      have HF : Hid _ := And.intro hS (And.intro (And.intro f0 (And.intro f1 (And.intro f2 (And.intro f4 (And.intro f5 f6))))) (And.intro hj (And.intro (And.intro dd3 (And.intro dd7 (And.intro dd8 dd9))) (And.intro p0 (And.intro p1 (And.intro p2 (And.intro p3 p4)))))))
      clear hS f0 f1 f2 f4 f5 f6 hj dd3 dd7 dd8 dd9 p0 p1 p2 p3 p4 hdp hd
      refine Opn.mk ?_
      dsimp only
      go_simp
      obtain ⟨hS, ⟨f0, f1, f2, f4, f5, f6⟩, hj, ⟨dd3, dd7, dd8, dd9⟩, ⟨p0, p1, p2, p3, p4⟩⟩ := HF.out
      exact hK.out (x62, .pointer (some ⟨bx, 1, none⟩), x64, x65, x66, x67, x68, x69, x70, x6) _ ⟨hS, ⟨(fun h => f0 (upd_ne h (by decide))), (fun _ => rfl), (fun h => f2 (upd_ne h (by decide))), (fun h => f4 (upd_ne h (by decide))), (fun h => f5 (upd_ne h (by decide))), (fun h => f6 (upd_ne h (by decide)))⟩, j, hj, ⟨((upd_no (by decide)).trans dd3), ((upd_no (by decide)).trans dd7), ((upd_no (by decide)).trans dd8), ((upd_no (by decide)).trans dd9)⟩, ⟨p0, p1, p2, p3, p4⟩⟩
    · rintro d ⟨x62, x63, x64, x65, x66, x67, x68, x69, x70, x6⟩ w' hI hd hdp KQ hK
      dsimp only at hI
      obtain ⟨hS, ⟨f0, f1, f2, f4, f5, f6⟩, j, hj, ⟨dd3, dd7, dd8, dd9⟩, ⟨p0, p1, p2, p3, p4⟩⟩ := hI
      obtain rfl := f1 (hdp 1 (by decide +kernel))
      have cc : w'.cell? ⟨bx, 1, none⟩ = some (.string ⟨A.toArray⟩) := BxA.cell hS 1 _ rfl
      have HF : Hid _ := And.intro hS (And.intro (And.intro f0 (And.intro f1 (And.intro f2 (And.intro f4 (And.intro f5 f6))))) (And.intro hj (And.intro (And.intro dd3 (And.intro dd7 (And.intro dd8 dd9))) (And.intro p0 (And.intro p1 (And.intro p2 (And.intro p3 p4)))))))
      clear hS f0 f1 f2 f4 f5 f6 hj dd3 dd7 dd8 dd9 p0 p1 p2 p3 p4 hdp hd
      refine Opn.mk ?_
      dsimp only
      go_simp
      obtain ⟨hS, ⟨f0, f1, f2, f4, f5, f6⟩, hj, ⟨dd3, dd7, dd8, dd9⟩, ⟨p0, p1, p2, p3, p4⟩⟩ := HF.out
      exact hK.out (x62, .pointer (some ⟨bx, 1, none⟩), .string ⟨A.toArray⟩, x65, x66, x67, x68, x69, x70, x6) _ ⟨hS, ⟨(fun h => f0 (upd_ne h (by decide))), (fun _ => rfl), (fun _ => rfl), (fun h => f4 (upd_ne h (by decide))), (fun h => f5 (upd_ne h (by decide))), (fun h => f6 (upd_ne h (by decide)))⟩, j, hj, ⟨((upd_no (by decide)).trans dd3), ((upd_no (by decide)).trans dd7), ((upd_no (by decide)).trans dd8), ((upd_no (by decide)).trans dd9)⟩, ⟨p0, p1, p2, p3, p4⟩⟩
    · rintro d ⟨x62, x63, x64, x65, x66, x67, x68, x69, x70, x6⟩ w' hI hd hdp KQ hK
      dsimp only at hI
      obtain ⟨hS, ⟨f0, f1, f2, f4, f5, f6⟩, j, hj, ⟨dd3, dd7, dd8, dd9⟩, ⟨p0, p1, p2, p3, p4⟩⟩ := hI
      obtain rfl := f0 (hdp 0 (by decide +kernel))
      obtain rfl := f2 (hdp 2 (by decide +kernel))
      obtain rfl := ph_zero dd3 hd
      have s := p0 rfl
      clear p0 p1 p2 p3 p4 hj
      have kk := pq_remove s A HN.out.2.2.1 HN.out.2.2.2.2.1
      rw [HC1.out] at kk
      have HG : Hid _ := And.intro hS s
      clear hS s
      have HF : Hid _ := And.intro (And.intro f0 (And.intro f1 (And.intro f2 (And.intro f4 (And.intro f5 f6))))) (And.intro dd3 (And.intro dd7 (And.intro dd8 dd9)))
      clear f0 f1 f2 f4 f5 f6 dd3 dd7 dd8 dd9 hdp hd
      refine Opn.mk ?_
      dsimp only
      go_simp
      go_wp2_with (first | (go_at_call 26; with_reducible refine kk.mono ?_; rintro e5 w5 ⟨rfl, G5⟩))
      obtain ⟨hS, s⟩ := HG.out
      obtain ⟨⟨f0, f1, f2, f4, f5, f6⟩, ⟨dd3, dd7, dd8, dd9⟩⟩ := HF.out
      refine hK.out (.pointer (some ⟨dp, 0, none⟩), x63, .string ⟨A.toArray⟩, .int .i64 (c : Int), x66, x67, x68, x69, x70, x6) _ ⟨?sg, ⟨(fun _ => rfl), (fun h => f1 (upd_ne h (by decide))), (fun _ => rfl), (fun h => f4 (upd_ne h (by decide))), (fun h => f5 (upd_ne h (by decide))), (fun h => f6 (upd_ne h (by decide)))⟩, 1, by decide, ⟨(by simp [upd]), ((upd_no (by decide)).trans (dd7.trans (by decide))), ((upd_no (by decide)).trans (dd8.trans (by decide))), ((upd_no (by decide)).trans (dd9.trans (by decide)))⟩, ⟨(fun h => absurd h (by decide)), (fun _ => ?new), (fun h => absurd h (by decide)), (fun h => absurd h (by decide)), (fun h => absurd h (by decide))⟩⟩
      case sg => exact G5.box
      case new =>
        exact ⟨rfl, G5⟩
    · rintro d ⟨x62, x63, x64, x65, x66, x67, x68, x69, x70, x6⟩ w' hI hd hdp KQ hK
      dsimp only at hI
      obtain ⟨hS, ⟨f0, f1, f2, f4, f5, f6⟩, j, hj, ⟨dd3, dd7, dd8, dd9⟩, ⟨p0, p1, p2, p3, p4⟩⟩ := hI
      have HF : Hid _ := And.intro hS (And.intro (And.intro f0 (And.intro f1 (And.intro f2 (And.intro f4 (And.intro f5 f6))))) (And.intro hj (And.intro (And.intro dd3 (And.intro dd7 (And.intro dd8 dd9))) (And.intro p0 (And.intro p1 (And.intro p2 (And.intro p3 p4)))))))
      clear hS f0 f1 f2 f4 f5 f6 hj dd3 dd7 dd8 dd9 p0 p1 p2 p3 p4 hdp hd
      refine Opn.mk ?_
      dsimp only
      go_simp
      obtain ⟨hS, ⟨f0, f1, f2, f4, f5, f6⟩, hj, ⟨dd3, dd7, dd8, dd9⟩, ⟨p0, p1, p2, p3, p4⟩⟩ := HF.out
      exact hK.out (x62, x63, x64, x65, .pointer (some ⟨rp, 0, none⟩), x67, x68, x69, x70, x6) _ ⟨hS, ⟨(fun h => f0 (upd_ne h (by decide))), (fun h => f1 (upd_ne h (by decide))), (fun h => f2 (upd_ne h (by decide))), (fun _ => rfl), (fun h => f5 (upd_ne h (by decide))), (fun h => f6 (upd_ne h (by decide)))⟩, j, hj, ⟨((upd_no (by decide)).trans dd3), ((upd_no (by decide)).trans dd7), ((upd_no (by decide)).trans dd8), ((upd_no (by decide)).trans dd9)⟩, ⟨p0, p1, p2, p3, p4⟩⟩
    · rintro d ⟨x62, x63, x64, x65, x66, x67, x68, x69, x70, x6⟩ w' hI hd hdp KQ hK
      dsimp only at hI
      obtain ⟨hS, ⟨f0, f1, f2, f4, f5, f6⟩, j, hj, ⟨dd3, dd7, dd8, dd9⟩, ⟨p0, p1, p2, p3, p4⟩⟩ := hI
      have HF : Hid _ := And.intro hS (And.intro (And.intro f0 (And.intro f1 (And.intro f2 (And.intro f4 (And.intro f5 f6))))) (And.intro hj (And.intro (And.intro dd3 (And.intro dd7 (And.intro dd8 dd9))) (And.intro p0 (And.intro p1 (And.intro p2 (And.intro p3 p4)))))))
      clear hS f0 f1 f2 f4 f5 f6 hj dd3 dd7 dd8 dd9 p0 p1 p2 p3 p4 hdp hd
      refine Opn.mk ?_
      dsimp only
      go_simp
      obtain ⟨hS, ⟨f0, f1, f2, f4, f5, f6⟩, hj, ⟨dd3, dd7, dd8, dd9⟩, ⟨p0, p1, p2, p3, p4⟩⟩ := HF.out
      exact hK.out (x62, x63, x64, x65, x66, .pointer (some ⟨bx, 1, none⟩), x68, x69, x70, x6) _ ⟨hS, ⟨(fun h => f0 (upd_ne h (by decide))), (fun h => f1 (upd_ne h (by decide))), (fun h => f2 (upd_ne h (by decide))), (fun h => f4 (upd_ne h (by decide))), (fun _ => rfl), (fun h => f6 (upd_ne h (by decide)))⟩, j, hj, ⟨((upd_no (by decide)).trans dd3), ((upd_no (by decide)).trans dd7), ((upd_no (by decide)).trans dd8), ((upd_no (by decide)).trans dd9)⟩, ⟨p0, p1, p2, p3, p4⟩⟩
    · rintro d ⟨x62, x63, x64, x65, x66, x67, x68, x69, x70, x6⟩ w' hI hd hdp KQ hK
      dsimp only at hI
      obtain ⟨hS, ⟨f0, f1, f2, f4, f5, f6⟩, j, hj, ⟨dd3, dd7, dd8, dd9⟩, ⟨p0, p1, p2, p3, p4⟩⟩ := hI
      obtain rfl := f5 (hdp 5 (by decide +kernel))
      have cc : w'.cell? ⟨bx, 1, none⟩ = some (.string ⟨A.toArray⟩) := BxA.cell hS 1 _ rfl
      have HF : Hid _ := And.intro hS (And.intro (And.intro f0 (And.intro f1 (And.intro f2 (And.intro f4 (And.intro f5 f6))))) (And.intro hj (And.intro (And.intro dd3 (And.intro dd7 (And.intro dd8 dd9))) (And.intro p0 (And.intro p1 (And.intro p2 (And.intro p3 p4)))))))
      clear hS f0 f1 f2 f4 f5 f6 hj dd3 dd7 dd8 dd9 p0 p1 p2 p3 p4 hdp hd
      refine Opn.mk ?_
      dsimp only
      go_simp
      obtain ⟨hS, ⟨f0, f1, f2, f4, f5, f6⟩, hj, ⟨dd3, dd7, dd8, dd9⟩, ⟨p0, p1, p2, p3, p4⟩⟩ := HF.out
      exact hK.out (x62, x63, x64, x65, x66, .pointer (some ⟨bx, 1, none⟩), .string ⟨A.toArray⟩, x69, x70, x6) _ ⟨hS, ⟨(fun h => f0 (upd_ne h (by decide))), (fun h => f1 (upd_ne h (by decide))), (fun h => f2 (upd_ne h (by decide))), (fun h => f4 (upd_ne h (by decide))), (fun _ => rfl), (fun _ => rfl)⟩, j, hj, ⟨((upd_no (by decide)).trans dd3), ((upd_no (by decide)).trans dd7), ((upd_no (by decide)).trans dd8), ((upd_no (by decide)).trans dd9)⟩, ⟨p0, p1, p2, p3, p4⟩⟩
    · rintro d ⟨x62, x63, x64, x65, x66, x67, x68, x69, x70, x6⟩ w' hI hd hdp KQ hK
      dsimp only at hI
      obtain ⟨hS, ⟨f0, f1, f2, f4, f5, f6⟩, j, hj, ⟨dd3, dd7, dd8, dd9⟩, ⟨p0, p1, p2, p3, p4⟩⟩ := hI
      obtain rfl := f4 (hdp 4 (by decide +kernel))
      obtain rfl := f6 (hdp 6 (by decide +kernel))
      obtain rfl := ph_eq (k := 0) dd7 hd dd3 (hdp 3 (by decide +kernel))
      have s := p1 rfl
      clear p0 p1 p2 p3 p4 hj
      obtain ⟨ea, s⟩ := s
      have kk := pq_rremove s A HN.out.2.2.1 HNN.out.1 HN.out.2.2.2.2.2.1 HN.out.2.2.2.2.2.2.1
      rw [HC2.out] at kk
      have HG : Hid _ := And.intro hS (And.intro ea s)
      clear hS s ea
      have HF : Hid _ := And.intro (And.intro f0 (And.intro f1 (And.intro f2 (And.intro f4 (And.intro f5 f6))))) (And.intro dd3 (And.intro dd7 (And.intro dd8 dd9)))
      clear f0 f1 f2 f4 f5 f6 dd3 dd7 dd8 dd9 hdp hd
      refine Opn.mk ?_
      dsimp only
      go_simp
      go_wp2_with (first | (go_at_call 34; with_reducible refine kk.mono ?_; rintro e5 w5 ⟨rfl, G5⟩))
      obtain ⟨hS, ea, s⟩ := HG.out
      obtain ⟨⟨f0, f1, f2, f4, f5, f6⟩, ⟨dd3, dd7, dd8, dd9⟩⟩ := HF.out
      refine hK.out (x62, x63, x64, x65, .pointer (some ⟨rp, 0, none⟩), x67, .string ⟨A.toArray⟩, .int .i64 (c : Int), x70, x6) _ ⟨?sg, ⟨(fun h => f0 (upd_ne h (by decide))), (fun h => f1 (upd_ne h (by decide))), (fun h => f2 (upd_ne h (by decide))), (fun _ => rfl), (fun h => f5 (upd_ne h (by decide))), (fun _ => rfl)⟩, 2, by decide, ⟨((upd_no (by decide)).trans (dd3.trans (by decide))), (by simp [upd]), ((upd_no (by decide)).trans (dd8.trans (by decide))), ((upd_no (by decide)).trans (dd9.trans (by decide)))⟩, ⟨(fun h => absurd h (by decide)), (fun h => absurd h (by decide)), (fun _ => ?new), (fun h => absurd h (by decide)), (fun h => absurd h (by decide))⟩⟩
      case sg => exact G5.box
      case new =>
        exact ⟨ea, rfl, G5⟩
    · rintro d ⟨x62, x63, x64, x65, x66, x67, x68, x69, x70, x6⟩ w' hI hd hdp KQ hK
      dsimp only at hI
      obtain ⟨hS, ⟨f0, f1, f2, f4, f5, f6⟩, j, hj, ⟨dd3, dd7, dd8, dd9⟩, ⟨p0, p1, p2, p3, p4⟩⟩ := hI
      obtain rfl := ph_eq (k := 1) dd8 hd dd7 (hdp 7 (by decide +kernel))
      have s := p2 rfl
      clear p0 p1 p2 p3 p4 hj
      obtain ⟨ea, eb, s⟩ := s
      subst ea
      subst eb
      have HG : Hid _ := And.intro hS s
      clear hS s
      have HF : Hid _ := And.intro (And.intro f0 (And.intro f1 (And.intro f2 (And.intro f4 (And.intro f5 f6))))) (And.intro dd3 (And.intro dd7 (And.intro dd8 dd9)))
      clear f0 f1 f2 f4 f5 f6 dd3 dd7 dd8 dd9 hdp hd
      refine Opn.mk ?_
      dsimp only
      go_simp
      obtain ⟨hS, s⟩ := HG.out
      obtain ⟨⟨f0, f1, f2, f4, f5, f6⟩, ⟨dd3, dd7, dd8, dd9⟩⟩ := HF.out
      refine hK.out (x62, x63, x64, .int .i64 (c : Int), x66, x67, x68, .int .i64 (c : Int), .bool true, x6) _ ⟨?sg, ⟨(fun h => f0 (upd_ne h (by decide))), (fun h => f1 (upd_ne h (by decide))), (fun h => f2 (upd_ne h (by decide))), (fun h => f4 (upd_ne h (by decide))), (fun h => f5 (upd_ne h (by decide))), (fun h => f6 (upd_ne h (by decide)))⟩, 3, by decide, ⟨((upd_no (by decide)).trans (dd3.trans (by decide))), ((upd_no (by decide)).trans (dd7.trans (by decide))), (by simp [upd]), ((upd_no (by decide)).trans (dd9.trans (by decide)))⟩, ⟨(fun h => absurd h (by decide)), (fun h => absurd h (by decide)), (fun h => absurd h (by decide)), (fun _ => ?new), (fun h => absurd h (by decide))⟩⟩
      case sg => exact hS
      case new =>
        exact ⟨rfl, s⟩
    · rintro d ⟨x62, x63, x64, x65, x66, x67, x68, x69, x70, x6⟩ w' hI hd hdp KQ hK
      dsimp only at hI
      obtain ⟨hS, ⟨f0, f1, f2, f4, f5, f6⟩, j, hj, ⟨dd3, dd7, dd8, dd9⟩, ⟨p0, p1, p2, p3, p4⟩⟩ := hI
      obtain rfl := ph_eq (k := 2) dd9 hd dd8 (hdp 8 (by decide +kernel))
      have s := p3 rfl
      clear p0 p1 p2 p3 p4 hj
      obtain ⟨ea, s⟩ := s
      subst ea
      have HG : Hid _ := And.intro hS s
      clear hS s
      have HF : Hid _ := And.intro (And.intro f0 (And.intro f1 (And.intro f2 (And.intro f4 (And.intro f5 f6))))) (And.intro dd3 (And.intro dd7 (And.intro dd8 dd9)))
      clear f0 f1 f2 f4 f5 f6 dd3 dd7 dd8 dd9 hdp hd
      refine Opn.mk ?_
      dsimp only
      go_simp
      obtain ⟨hS, s⟩ := HG.out
      obtain ⟨⟨f0, f1, f2, f4, f5, f6⟩, ⟨dd3, dd7, dd8, dd9⟩⟩ := HF.out
      refine hK.out (x62, x63, x64, x65, x66, x67, x68, x69, .bool true, .bool true) _ ⟨?sg, ⟨(fun h => f0 (upd_ne h (by decide))), (fun h => f1 (upd_ne h (by decide))), (fun h => f2 (upd_ne h (by decide))), (fun h => f4 (upd_ne h (by decide))), (fun h => f5 (upd_ne h (by decide))), (fun h => f6 (upd_ne h (by decide)))⟩, 4, by decide, ⟨((upd_no (by decide)).trans (dd3.trans (by decide))), ((upd_no (by decide)).trans (dd7.trans (by decide))), ((upd_no (by decide)).trans (dd8.trans (by decide))), (by simp [upd])⟩, ⟨(fun h => absurd h (by decide)), (fun h => absurd h (by decide)), (fun h => absurd h (by decide)), (fun h => absurd h (by decide)), (fun _ => ?new)⟩⟩
      case sg => exact hS
      case new =>
        exact ⟨rfl, s⟩
  case he62 =>
    rintro d ⟨x62, x63, x64, x65, x66, x67, x68, x69, x70, x6⟩ w' hall hI
    dsimp only at hI
    obtain ⟨hS, ⟨f0, f1, f2, f4, f5, f6⟩, j, hj, ⟨dd3, dd7, dd8, dd9⟩, ⟨p0, p1, p2, p3, p4⟩⟩ := hI
    obtain rfl := ph_end (k := 3) hj dd9 (hall 9 (by decide))
    have s := p4 rfl
    clear hall hj f0 f1 f2 f4 f5 f6 dd3 dd7 dd8 dd9 p0 p1 p2 p3 p4
    obtain ⟨ea, s⟩ := s
    subst ea
    have HG : Hid _ := s
    clear hS s
    dsimp only
    go_wp2_with fail
    go_ret
    exact ⟨rfl, ⟨_, _, Pq.pp (t0 := tr) HG.out (HNN.out.2) (HR.out.remove A).2 (rrem_pt tr A).2 HB.out.1 (by rw [(rrem_pt tr A).1]; exact HB.out.2.1) (nms_remove HM.out A)⟩⟩
end Go.Proofs.Ytdcoeebpknipdaa
