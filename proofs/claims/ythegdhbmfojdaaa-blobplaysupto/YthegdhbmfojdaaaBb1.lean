/- A call on both: Put, Delete. -/
import Derived.Test.YthegdhbmfojdaaaBb0
namespace Go.Proofs.Ythegdhbmfojdaaa
open Go.RowKit Go.Maps Go.Sort
set_option linter.unusedVariables false

set_option maxRecDepth 100000 in
set_option maxHeartbeats 3200000 in
theorem both_0 (w0 w : World) (sp dp rp m : Nat) (sd : St) (tr : RSt) (K n : Int) (A : Str) (ua : Option Addr) (uc : Nat) (bs : Str) (h : Qp w0 w sp dp rp m sd tr) (hm : m < 100) (ok : OpM.Ok w0 1048576 ⟨K, A, .slice ua bs.length uc, bs, n⟩) (hk : absN K % 13 = 0) :
    Calls Try.prog 13 #[.pointer (some ⟨sp, 0, none⟩), .pointer (some ⟨dp, 0, none⟩), .pointer (some ⟨rp, 0, none⟩), .agg #[.int .i64 K, .string ⟨A.toArray⟩, .slice ua bs.length uc, .int .i64 n]] w fun e w' => e = .returned (.bool true) ∧ Bth w0 w' sp dp rp m := by
  have mixed : Try.prog.follows .mixedOrders = true := by kernel_rfl
  obtain ⟨W, hW⟩ : ∃ W, W = w.alloc (.cells #[.int .i64 K, .string ⟨A.toArray⟩, .slice ua bs.length uc, .int .i64 n] 35) := ⟨_, rfl⟩
  have hq := h.box hW
  have kAb := abs_any W K ok.k1 ok.k2
  have hab : (absN K : Int) % 13 = 0 := by omega
  have HR : Hid (Rel sd tr) := h.rel
  have HRX : Hid (∃ s, Rel s tr) := ⟨_, h.rel⟩
  have HM : Hid (NmS sd) := h.nm
  have HB : Hid (tr.n ≤ m * 1004 ∧ tr.part ≤ 9223372036854775807 ∧ m < 100) := ⟨h.n, h.part, hm⟩
  have HW : Hid (W = w.alloc (.cells #[.int .i64 K, .string ⟨A.toArray⟩, .slice ua bs.length uc, .int .i64 n] 35)) := hW
  have hA : A.length ≤ 1048576 := ok.a
  have HOK : Hid (OpM.Ok w0 1048576 ⟨K, A, .slice ua bs.length uc, bs, n⟩) := ok
  have hl : bs.length ≤ 1048576 := ok.rl
  have hop : sd.ops < 990000 := by have := h.n; have := h.rel.n; omega
  have hopt : tr.n < 990000 := by have := h.n; omega
  have HQ : Hid (Ps w0 W sp dp rp (m * 4194304) sd tr w.heap.size 35 #[.int .i64 K, .string ⟨A.toArray⟩, .slice ua bs.length uc, .int .i64 n]) := hq
  obtain ⟨bx, hbx⟩ : ∃ b, b = w.heap.size := ⟨_, rfl⟩
  rw [← hbx] at HQ
  have HN : Hid (A.length ≤ 2000000 ∧ sd.ops < 990000 ∧ tr.n < 990000 ∧ tr.part ≤ 9223372036854775807 ∧ Srt tr.fs ∧ sd.ops < 999000 ∧ tr.n < 999000 ∧ sd.ops < 1000000 ∧ tr.n < 1000000) := ⟨by omega, hop, hopt, h.part, h.rel.sp.srt, by omega, by omega, by omega, by omega⟩
  have HNN : Hid (m * 4194304 ≤ 140737488355328 ∧ m * 4194304 ≤ (m + 1) * 4194304 ∧ m * 4194304 + 1048584 ≤ 140737488355328 ∧ m * 4194304 + 1048584 + 1048584 ≤ 140737488355328 ∧ m * 4194304 + 1048584 + 1048584 ≤ (m + 1) * 4194304 ∧ m * 4194304 + bs.length ≤ 140737488355328 ∧ m * 4194304 + bs.length + bs.length ≤ 140737488355328 ∧ m * 4194304 + bs.length + bs.length ≤ (m + 1) * 4194304) := by apply hide; omega
  have c0 := HQ.out.box.cell 0 _ rfl
  clear hq h ok hW hm hA hl hop hopt hk
  go_enter Try.func13, Try.ntmps13
  go_wp2_with fail
  rw [← HW.out]
  go_wp2_with fail
  refine kAb.mono ?_
  rintro e wq ⟨rfl, rfl⟩
  clear kAb
  go_upto_region 6 with fail
  rw [← hbx]
  try rw [hab]
  clear hbx hab
  clear c0
  obtain ⟨c, hc⟩ : ∃ c, c = (bput sd A bs).1 := ⟨_, rfl⟩
  have HC1 : Hid ((bput sd A bs).1 = c) := hc.symm
  have HC2 : Hid ((rputB tr A bs).1 = c) := by apply hide; rw [hc]; exact (HR.out.putB A bs).1.symm
  have hSig0 : BxA wq.drew bx 35 #[.int .i64 K, .string ⟨A.toArray⟩, .slice ua bs.length uc, .int .i64 n] := HQ.out.box
  have hS00 : Ps w0 wq.drew sp dp rp (m * 4194304) sd tr bx 35 #[.int .i64 K, .string ⟨A.toArray⟩, .slice ua bs.length uc, .int .i64 n] := ps_drew HQ.out
  clear hc
  refine wp_region_invF (β := Value × Value × Value × Value × Value × Value × Value × Value × Value × Value × Value × Value × Value × Value) (fun a0 xq => ((((((((((((((a0.put (some 27) (xq.1)).put (some 28) (xq.2.1)).put (some 29) (xq.2.2.1)).put (some 30) (xq.2.2.2.1)).put (some 31) (xq.2.2.2.2.1)).put (some 32) (xq.2.2.2.2.2.1)).put (some 33) (xq.2.2.2.2.2.2.1)).put (some 34) (xq.2.2.2.2.2.2.2.1)).put (some 35) (xq.2.2.2.2.2.2.2.2.1)).put (some 36) (xq.2.2.2.2.2.2.2.2.2.1)).put (some 37) (xq.2.2.2.2.2.2.2.2.2.2.1)).put (some 38) (xq.2.2.2.2.2.2.2.2.2.2.2.1)).put (some 39) (xq.2.2.2.2.2.2.2.2.2.2.2.2.1)).put (some 8) (xq.2.2.2.2.2.2.2.2.2.2.2.2.2))) ?fr27 (fun xq d w' => (BxA w' bx 35 #[.int .i64 K, .string ⟨A.toArray⟩, .slice ua bs.length uc, .int .i64 n]) ∧ ((d 0 = true → (xq.1) = .pointer (some ⟨sp, 0, none⟩)) ∧ (d 1 = true → (xq.2.1) = .pointer (some ⟨bx, 1, none⟩)) ∧ (d 2 = true → (xq.2.2.1) = .string ⟨A.toArray⟩) ∧ (d 3 = true → (xq.2.2.2.1) = .pointer (some ⟨bx, 2, none⟩)) ∧ (d 4 = true → (xq.2.2.2.2.1) = .slice ua bs.length uc) ∧ (d 6 = true → (xq.2.2.2.2.2.2.1) = .pointer (some ⟨rp, 0, none⟩)) ∧ (d 7 = true → (xq.2.2.2.2.2.2.2.1) = .pointer (some ⟨bx, 1, none⟩)) ∧ (d 8 = true → (xq.2.2.2.2.2.2.2.2.1) = .string ⟨A.toArray⟩) ∧ (d 9 = true → (xq.2.2.2.2.2.2.2.2.2.1) = .pointer (some ⟨bx, 2, none⟩)) ∧ (d 10 = true → (xq.2.2.2.2.2.2.2.2.2.2.1) = .slice ua bs.length uc)) ∧ ∃ j : Nat, j ≤ 4 ∧ (d 5 = decide (0 < j) ∧ d 11 = decide (1 < j) ∧ d 12 = decide (2 < j) ∧ d 13 = decide (3 < j)) ∧ ((j = 0 → Ps w0 w' sp dp rp (m * 4194304) (sd) (tr) bx 35 #[.int .i64 K, .string ⟨A.toArray⟩, .slice ua bs.length uc, .int .i64 n]) ∧ (j = 1 → (xq.2.2.2.2.2.1) = .int .i64 (c : Int) ∧ Ps w0 w' sp dp rp (m * 4194304 + 1048584) ((bput sd A bs).2) (tr) bx 35 #[.int .i64 K, .string ⟨A.toArray⟩, .slice ua bs.length uc, .int .i64 n]) ∧ (j = 2 → (xq.2.2.2.2.2.1) = .int .i64 (c : Int) ∧ (xq.2.2.2.2.2.2.2.2.2.2.2.1) = .int .i64 (c : Int) ∧ Ps w0 w' sp dp rp (m * 4194304 + 1048584 + 1048584) ((bput sd A bs).2) ((rputB tr A bs).2) bx 35 #[.int .i64 K, .string ⟨A.toArray⟩, .slice ua bs.length uc, .int .i64 n]) ∧ (j = 3 → (xq.2.2.2.2.2.2.2.2.2.2.2.2.1) = .bool true ∧ Ps w0 w' sp dp rp (m * 4194304 + 1048584 + 1048584) ((bput sd A bs).2) ((rputB tr A bs).2) bx 35 #[.int .i64 K, .string ⟨A.toArray⟩, .slice ua bs.length uc, .int .i64 n]) ∧ (j = 4 → (xq.2.2.2.2.2.2.2.2.2.2.2.2.2) = .bool true ∧ Ps w0 w' sp dp rp (m * 4194304 + 1048584 + 1048584) ((bput sd A bs).2) ((rputB tr A bs).2) bx 35 #[.int .i64 K, .string ⟨A.toArray⟩, .slice ua bs.length uc, .int .i64 n]))) ?lay27 mixed (by kernel_rfl) ?h027 ?hs27 ?he27
  case lay27 =>
    intro xq
    simp only [Act.put, List.setIfInBounds_toArray, List.set_cons_zero, List.set_cons_succ]
    rfl
  case h027 =>
    refine ⟨(undef, undef, undef, undef, undef, undef, undef, undef, undef, undef, undef, undef, undef, .bool false), rfl, ?sig27, ⟨(fun h => by cases h), (fun h => by cases h), (fun h => by cases h), (fun h => by cases h), (fun h => by cases h), (fun h => by cases h), (fun h => by cases h), (fun h => by cases h), (fun h => by cases h), (fun h => by cases h)⟩, 0, Nat.zero_le _, ⟨rfl, rfl, rfl, rfl⟩, ?S027, (fun h => by cases h), (fun h => by cases h), (fun h => by cases h), (fun h => by cases h)⟩
    case sig27 => exact hSig0
    case S027 => exact fun _ => hS00
  case hs27 =>
    refine ⟨?_, ?_, ?_, ?_, ?_, ?_, ?_, ?_, ?_, ?_, ?_, ?_, ?_, ?_, trivial⟩
    · rintro d ⟨x27, x28, x29, x30, x31, x32, x33, x34, x35, x36, x37, x38, x39, x8⟩ w' hI hd hdp KQ hK
      dsimp only at hI
      obtain ⟨hS, ⟨f0, f1, f2, f3, f4, f6, f7, f8, f9, f10⟩, j, hj, ⟨dd5, dd11, dd12, dd13⟩, ⟨p0, p1, p2, p3, p4⟩⟩ := hI
      have HF : Hid _ := And.intro hS (And.intro (And.intro f0 (And.intro f1 (And.intro f2 (And.intro f3 (And.intro f4 (And.intro f6 (And.intro f7 (And.intro f8 (And.intro f9 f10))))))))) (And.intro hj (And.intro (And.intro dd5 (And.intro dd11 (And.intro dd12 dd13))) (And.intro p0 (And.intro p1 (And.intro p2 (And.intro p3 p4)))))))
      clear hS f0 f1 f2 f3 f4 f6 f7 f8 f9 f10 hj dd5 dd11 dd12 dd13 p0 p1 p2 p3 p4 hdp hd
      refine Opn.mk ?_
      dsimp only
      go_simp
      obtain ⟨hS, ⟨f0, f1, f2, f3, f4, f6, f7, f8, f9, f10⟩, hj, ⟨dd5, dd11, dd12, dd13⟩, ⟨p0, p1, p2, p3, p4⟩⟩ := HF.out
      exact hK.out (.pointer (some ⟨sp, 0, none⟩), x28, x29, x30, x31, x32, x33, x34, x35, x36, x37, x38, x39, x8) _ ⟨hS, ⟨(fun _ => rfl), (fun h => f1 (upd_ne h (by decide))), (fun h => f2 (upd_ne h (by decide))), (fun h => f3 (upd_ne h (by decide))), (fun h => f4 (upd_ne h (by decide))), (fun h => f6 (upd_ne h (by decide))), (fun h => f7 (upd_ne h (by decide))), (fun h => f8 (upd_ne h (by decide))), (fun h => f9 (upd_ne h (by decide))), (fun h => f10 (upd_ne h (by decide)))⟩, j, hj, ⟨((upd_no (by decide)).trans dd5), ((upd_no (by decide)).trans dd11), ((upd_no (by decide)).trans dd12), ((upd_no (by decide)).trans dd13)⟩, ⟨p0, p1, p2, p3, p4⟩⟩
    · rintro d ⟨x27, x28, x29, x30, x31, x32, x33, x34, x35, x36, x37, x38, x39, x8⟩ w' hI hd hdp KQ hK
      dsimp only at hI
      obtain ⟨hS, ⟨f0, f1, f2, f3, f4, f6, f7, f8, f9, f10⟩, j, hj, ⟨dd5, dd11, dd12, dd13⟩, ⟨p0, p1, p2, p3, p4⟩⟩ := hI
      have HF : Hid _ := And.intro hS (And.intro (And.intro f0 (And.intro f1 (And.intro f2 (And.intro f3 (And.intro f4 (And.intro f6 (And.intro f7 (And.intro f8 (And.intro f9 f10))))))))) (And.intro hj (And.intro (And.intro dd5 (And.intro dd11 (And.intro dd12 dd13))) (And.intro p0 (And.intro p1 (And.intro p2 (And.intro p3 p4)))))))
      clear hS f0 f1 f2 f3 f4 f6 f7 f8 f9 f10 hj dd5 dd11 dd12 dd13 p0 p1 p2 p3 p4 hdp hd
      refine Opn.mk ?_
      dsimp only
      go_simp
      obtain ⟨hS, ⟨f0, f1, f2, f3, f4, f6, f7, f8, f9, f10⟩, hj, ⟨dd5, dd11, dd12, dd13⟩, ⟨p0, p1, p2, p3, p4⟩⟩ := HF.out
      exact hK.out (x27, .pointer (some ⟨bx, 1, none⟩), x29, x30, x31, x32, x33, x34, x35, x36, x37, x38, x39, x8) _ ⟨hS, ⟨(fun h => f0 (upd_ne h (by decide))), (fun _ => rfl), (fun h => f2 (upd_ne h (by decide))), (fun h => f3 (upd_ne h (by decide))), (fun h => f4 (upd_ne h (by decide))), (fun h => f6 (upd_ne h (by decide))), (fun h => f7 (upd_ne h (by decide))), (fun h => f8 (upd_ne h (by decide))), (fun h => f9 (upd_ne h (by decide))), (fun h => f10 (upd_ne h (by decide)))⟩, j, hj, ⟨((upd_no (by decide)).trans dd5), ((upd_no (by decide)).trans dd11), ((upd_no (by decide)).trans dd12), ((upd_no (by decide)).trans dd13)⟩, ⟨p0, p1, p2, p3, p4⟩⟩
    · rintro d ⟨x27, x28, x29, x30, x31, x32, x33, x34, x35, x36, x37, x38, x39, x8⟩ w' hI hd hdp KQ hK
      dsimp only at hI
      obtain ⟨hS, ⟨f0, f1, f2, f3, f4, f6, f7, f8, f9, f10⟩, j, hj, ⟨dd5, dd11, dd12, dd13⟩, ⟨p0, p1, p2, p3, p4⟩⟩ := hI
      obtain rfl := f1 (hdp 1 (by decide +kernel))
      have cc : w'.cell? ⟨bx, 1, none⟩ = some (.string ⟨A.toArray⟩) := BxA.cell hS 1 _ rfl
      have HF : Hid _ := And.intro hS (And.intro (And.intro f0 (And.intro f1 (And.intro f2 (And.intro f3 (And.intro f4 (And.intro f6 (And.intro f7 (And.intro f8 (And.intro f9 f10))))))))) (And.intro hj (And.intro (And.intro dd5 (And.intro dd11 (And.intro dd12 dd13))) (And.intro p0 (And.intro p1 (And.intro p2 (And.intro p3 p4)))))))
      clear hS f0 f1 f2 f3 f4 f6 f7 f8 f9 f10 hj dd5 dd11 dd12 dd13 p0 p1 p2 p3 p4 hdp hd
      refine Opn.mk ?_
      dsimp only
      go_simp
      obtain ⟨hS, ⟨f0, f1, f2, f3, f4, f6, f7, f8, f9, f10⟩, hj, ⟨dd5, dd11, dd12, dd13⟩, ⟨p0, p1, p2, p3, p4⟩⟩ := HF.out
      exact hK.out (x27, .pointer (some ⟨bx, 1, none⟩), .string ⟨A.toArray⟩, x30, x31, x32, x33, x34, x35, x36, x37, x38, x39, x8) _ ⟨hS, ⟨(fun h => f0 (upd_ne h (by decide))), (fun _ => rfl), (fun _ => rfl), (fun h => f3 (upd_ne h (by decide))), (fun h => f4 (upd_ne h (by decide))), (fun h => f6 (upd_ne h (by decide))), (fun h => f7 (upd_ne h (by decide))), (fun h => f8 (upd_ne h (by decide))), (fun h => f9 (upd_ne h (by decide))), (fun h => f10 (upd_ne h (by decide)))⟩, j, hj, ⟨((upd_no (by decide)).trans dd5), ((upd_no (by decide)).trans dd11), ((upd_no (by decide)).trans dd12), ((upd_no (by decide)).trans dd13)⟩, ⟨p0, p1, p2, p3, p4⟩⟩
    · rintro d ⟨x27, x28, x29, x30, x31, x32, x33, x34, x35, x36, x37, x38, x39, x8⟩ w' hI hd hdp KQ hK
      dsimp only at hI
      obtain ⟨hS, ⟨f0, f1, f2, f3, f4, f6, f7, f8, f9, f10⟩, j, hj, ⟨dd5, dd11, dd12, dd13⟩, ⟨p0, p1, p2, p3, p4⟩⟩ := hI
      have HF : Hid _ := And.intro hS (And.intro (And.intro f0 (And.intro f1 (And.intro f2 (And.intro f3 (And.intro f4 (And.intro f6 (And.intro f7 (And.intro f8 (And.intro f9 f10))))))))) (And.intro hj (And.intro (And.intro dd5 (And.intro dd11 (And.intro dd12 dd13))) (And.intro p0 (And.intro p1 (And.intro p2 (And.intro p3 p4)))))))
      clear hS f0 f1 f2 f3 f4 f6 f7 f8 f9 f10 hj dd5 dd11 dd12 dd13 p0 p1 p2 p3 p4 hdp hd
      refine Opn.mk ?_
      dsimp only
      go_simp
      obtain ⟨hS, ⟨f0, f1, f2, f3, f4, f6, f7, f8, f9, f10⟩, hj, ⟨dd5, dd11, dd12, dd13⟩, ⟨p0, p1, p2, p3, p4⟩⟩ := HF.out
      exact hK.out (x27, x28, x29, .pointer (some ⟨bx, 2, none⟩), x31, x32, x33, x34, x35, x36, x37, x38, x39, x8) _ ⟨hS, ⟨(fun h => f0 (upd_ne h (by decide))), (fun h => f1 (upd_ne h (by decide))), (fun h => f2 (upd_ne h (by decide))), (fun _ => rfl), (fun h => f4 (upd_ne h (by decide))), (fun h => f6 (upd_ne h (by decide))), (fun h => f7 (upd_ne h (by decide))), (fun h => f8 (upd_ne h (by decide))), (fun h => f9 (upd_ne h (by decide))), (fun h => f10 (upd_ne h (by decide)))⟩, j, hj, ⟨((upd_no (by decide)).trans dd5), ((upd_no (by decide)).trans dd11), ((upd_no (by decide)).trans dd12), ((upd_no (by decide)).trans dd13)⟩, ⟨p0, p1, p2, p3, p4⟩⟩
    · rintro d ⟨x27, x28, x29, x30, x31, x32, x33, x34, x35, x36, x37, x38, x39, x8⟩ w' hI hd hdp KQ hK
      dsimp only at hI
      obtain ⟨hS, ⟨f0, f1, f2, f3, f4, f6, f7, f8, f9, f10⟩, j, hj, ⟨dd5, dd11, dd12, dd13⟩, ⟨p0, p1, p2, p3, p4⟩⟩ := hI
      obtain rfl := f3 (hdp 3 (by decide +kernel))
      have cc : w'.cell? ⟨bx, 2, none⟩ = some (.slice ua bs.length uc) := BxA.cell hS 2 _ rfl
      have HF : Hid _ := And.intro hS (And.intro (And.intro f0 (And.intro f1 (And.intro f2 (And.intro f3 (And.intro f4 (And.intro f6 (And.intro f7 (And.intro f8 (And.intro f9 f10))))))))) (And.intro hj (And.intro (And.intro dd5 (And.intro dd11 (And.intro dd12 dd13))) (And.intro p0 (And.intro p1 (And.intro p2 (And.intro p3 p4)))))))
      clear hS f0 f1 f2 f3 f4 f6 f7 f8 f9 f10 hj dd5 dd11 dd12 dd13 p0 p1 p2 p3 p4 hdp hd
      refine Opn.mk ?_
      dsimp only
      go_simp
      obtain ⟨hS, ⟨f0, f1, f2, f3, f4, f6, f7, f8, f9, f10⟩, hj, ⟨dd5, dd11, dd12, dd13⟩, ⟨p0, p1, p2, p3, p4⟩⟩ := HF.out
      exact hK.out (x27, x28, x29, .pointer (some ⟨bx, 2, none⟩), .slice ua bs.length uc, x32, x33, x34, x35, x36, x37, x38, x39, x8) _ ⟨hS, ⟨(fun h => f0 (upd_ne h (by decide))), (fun h => f1 (upd_ne h (by decide))), (fun h => f2 (upd_ne h (by decide))), (fun _ => rfl), (fun _ => rfl), (fun h => f6 (upd_ne h (by decide))), (fun h => f7 (upd_ne h (by decide))), (fun h => f8 (upd_ne h (by decide))), (fun h => f9 (upd_ne h (by decide))), (fun h => f10 (upd_ne h (by decide)))⟩, j, hj, ⟨((upd_no (by decide)).trans dd5), ((upd_no (by decide)).trans dd11), ((upd_no (by decide)).trans dd12), ((upd_no (by decide)).trans dd13)⟩, ⟨p0, p1, p2, p3, p4⟩⟩
    · rintro d ⟨x27, x28, x29, x30, x31, x32, x33, x34, x35, x36, x37, x38, x39, x8⟩ w' hI hd hdp KQ hK
      dsimp only at hI
      obtain ⟨hS, ⟨f0, f1, f2, f3, f4, f6, f7, f8, f9, f10⟩, j, hj, ⟨dd5, dd11, dd12, dd13⟩, ⟨p0, p1, p2, p3, p4⟩⟩ := hI
      obtain rfl := f0 (hdp 0 (by decide +kernel))
      obtain rfl := f2 (hdp 2 (by decide +kernel))
      obtain rfl := f4 (hdp 4 (by decide +kernel))
      obtain rfl := ph_zero dd5 hd
      have s := p0 rfl
      clear p0 p1 p2 p3 p4 hj
      have kk := ps_put s A (.slice ua bs.length uc) bs HN.out.1 HOK.out.r HNN.out.2.2.1 HN.out.2.2.2.2.2.1
      rw [HC1.out] at kk
      have HG : Hid _ := And.intro hS s
      clear hS s
      have HF : Hid _ := And.intro (And.intro f0 (And.intro f1 (And.intro f2 (And.intro f3 (And.intro f4 (And.intro f6 (And.intro f7 (And.intro f8 (And.intro f9 f10))))))))) (And.intro dd5 (And.intro dd11 (And.intro dd12 dd13)))
      clear f0 f1 f2 f3 f4 f6 f7 f8 f9 f10 dd5 dd11 dd12 dd13 hdp hd
      refine Opn.mk ?_
      dsimp only
      go_simp
      go_wp2_with (first | (go_at_call 19; with_reducible refine kk.mono ?_; rintro e5 w5 ⟨rfl, G5⟩))
      obtain ⟨hS, s⟩ := HG.out
      obtain ⟨⟨f0, f1, f2, f3, f4, f6, f7, f8, f9, f10⟩, ⟨dd5, dd11, dd12, dd13⟩⟩ := HF.out
      refine hK.out (.pointer (some ⟨sp, 0, none⟩), x28, .string ⟨A.toArray⟩, x30, .slice ua bs.length uc, .int .i64 (c : Int), x33, x34, x35, x36, x37, x38, x39, x8) _ ⟨?sg, ⟨(fun _ => rfl), (fun h => f1 (upd_ne h (by decide))), (fun _ => rfl), (fun h => f3 (upd_ne h (by decide))), (fun _ => rfl), (fun h => f6 (upd_ne h (by decide))), (fun h => f7 (upd_ne h (by decide))), (fun h => f8 (upd_ne h (by decide))), (fun h => f9 (upd_ne h (by decide))), (fun h => f10 (upd_ne h (by decide)))⟩, 1, by decide, ⟨(by simp [upd]), ((upd_no (by decide)).trans (dd11.trans (by decide))), ((upd_no (by decide)).trans (dd12.trans (by decide))), ((upd_no (by decide)).trans (dd13.trans (by decide)))⟩, ⟨(fun h => absurd h (by decide)), (fun _ => ?new), (fun h => absurd h (by decide)), (fun h => absurd h (by decide)), (fun h => absurd h (by decide))⟩⟩
      case sg => exact G5.box
      case new =>
        exact ⟨rfl, G5⟩
    · rintro d ⟨x27, x28, x29, x30, x31, x32, x33, x34, x35, x36, x37, x38, x39, x8⟩ w' hI hd hdp KQ hK
      dsimp only at hI
      obtain ⟨hS, ⟨f0, f1, f2, f3, f4, f6, f7, f8, f9, f10⟩, j, hj, ⟨dd5, dd11, dd12, dd13⟩, ⟨p0, p1, p2, p3, p4⟩⟩ := hI
      have HF : Hid _ := And.intro hS (And.intro (And.intro f0 (And.intro f1 (And.intro f2 (And.intro f3 (And.intro f4 (And.intro f6 (And.intro f7 (And.intro f8 (And.intro f9 f10))))))))) (And.intro hj (And.intro (And.intro dd5 (And.intro dd11 (And.intro dd12 dd13))) (And.intro p0 (And.intro p1 (And.intro p2 (And.intro p3 p4)))))))
      clear hS f0 f1 f2 f3 f4 f6 f7 f8 f9 f10 hj dd5 dd11 dd12 dd13 p0 p1 p2 p3 p4 hdp hd
      refine Opn.mk ?_
      dsimp only
      go_simp
      obtain ⟨hS, ⟨f0, f1, f2, f3, f4, f6, f7, f8, f9, f10⟩, hj, ⟨dd5, dd11, dd12, dd13⟩, ⟨p0, p1, p2, p3, p4⟩⟩ := HF.out
      exact hK.out (x27, x28, x29, x30, x31, x32, .pointer (some ⟨rp, 0, none⟩), x34, x35, x36, x37, x38, x39, x8) _ ⟨hS, ⟨(fun h => f0 (upd_ne h (by decide))), (fun h => f1 (upd_ne h (by decide))), (fun h => f2 (upd_ne h (by decide))), (fun h => f3 (upd_ne h (by decide))), (fun h => f4 (upd_ne h (by decide))), (fun _ => rfl), (fun h => f7 (upd_ne h (by decide))), (fun h => f8 (upd_ne h (by decide))), (fun h => f9 (upd_ne h (by decide))), (fun h => f10 (upd_ne h (by decide)))⟩, j, hj, ⟨((upd_no (by decide)).trans dd5), ((upd_no (by decide)).trans dd11), ((upd_no (by decide)).trans dd12), ((upd_no (by decide)).trans dd13)⟩, ⟨p0, p1, p2, p3, p4⟩⟩
    · rintro d ⟨x27, x28, x29, x30, x31, x32, x33, x34, x35, x36, x37, x38, x39, x8⟩ w' hI hd hdp KQ hK
      dsimp only at hI
      obtain ⟨hS, ⟨f0, f1, f2, f3, f4, f6, f7, f8, f9, f10⟩, j, hj, ⟨dd5, dd11, dd12, dd13⟩, ⟨p0, p1, p2, p3, p4⟩⟩ := hI
      have HF : Hid _ := And.intro hS (And.intro (And.intro f0 (And.intro f1 (And.intro f2 (And.intro f3 (And.intro f4 (And.intro f6 (And.intro f7 (And.intro f8 (And.intro f9 f10))))))))) (And.intro hj (And.intro (And.intro dd5 (And.intro dd11 (And.intro dd12 dd13))) (And.intro p0 (And.intro p1 (And.intro p2 (And.intro p3 p4)))))))
      clear hS f0 f1 f2 f3 f4 f6 f7 f8 f9 f10 hj dd5 dd11 dd12 dd13 p0 p1 p2 p3 p4 hdp hd
      refine Opn.mk ?_
      dsimp only
      go_simp
      obtain ⟨hS, ⟨f0, f1, f2, f3, f4, f6, f7, f8, f9, f10⟩, hj, ⟨dd5, dd11, dd12, dd13⟩, ⟨p0, p1, p2, p3, p4⟩⟩ := HF.out
      exact hK.out (x27, x28, x29, x30, x31, x32, x33, .pointer (some ⟨bx, 1, none⟩), x35, x36, x37, x38, x39, x8) _ ⟨hS, ⟨(fun h => f0 (upd_ne h (by decide))), (fun h => f1 (upd_ne h (by decide))), (fun h => f2 (upd_ne h (by decide))), (fun h => f3 (upd_ne h (by decide))), (fun h => f4 (upd_ne h (by decide))), (fun h => f6 (upd_ne h (by decide))), (fun _ => rfl), (fun h => f8 (upd_ne h (by decide))), (fun h => f9 (upd_ne h (by decide))), (fun h => f10 (upd_ne h (by decide)))⟩, j, hj, ⟨((upd_no (by decide)).trans dd5), ((upd_no (by decide)).trans dd11), ((upd_no (by decide)).trans dd12), ((upd_no (by decide)).trans dd13)⟩, ⟨p0, p1, p2, p3, p4⟩⟩
    · rintro d ⟨x27, x28, x29, x30, x31, x32, x33, x34, x35, x36, x37, x38, x39, x8⟩ w' hI hd hdp KQ hK
      dsimp only at hI
      obtain ⟨hS, ⟨f0, f1, f2, f3, f4, f6, f7, f8, f9, f10⟩, j, hj, ⟨dd5, dd11, dd12, dd13⟩, ⟨p0, p1, p2, p3, p4⟩⟩ := hI
      obtain rfl := f7 (hdp 7 (by decide +kernel))
      have cc : w'.cell? ⟨bx, 1, none⟩ = some (.string ⟨A.toArray⟩) := BxA.cell hS 1 _ rfl
      have HF : Hid _ := And.intro hS (And.intro (And.intro f0 (And.intro f1 (And.intro f2 (And.intro f3 (And.intro f4 (And.intro f6 (And.intro f7 (And.intro f8 (And.intro f9 f10))))))))) (And.intro hj (And.intro (And.intro dd5 (And.intro dd11 (And.intro dd12 dd13))) (And.intro p0 (And.intro p1 (And.intro p2 (And.intro p3 p4)))))))
      clear hS f0 f1 f2 f3 f4 f6 f7 f8 f9 f10 hj dd5 dd11 dd12 dd13 p0 p1 p2 p3 p4 hdp hd
      refine Opn.mk ?_
      dsimp only
      go_simp
      obtain ⟨hS, ⟨f0, f1, f2, f3, f4, f6, f7, f8, f9, f10⟩, hj, ⟨dd5, dd11, dd12, dd13⟩, ⟨p0, p1, p2, p3, p4⟩⟩ := HF.out
      exact hK.out (x27, x28, x29, x30, x31, x32, x33, .pointer (some ⟨bx, 1, none⟩), .string ⟨A.toArray⟩, x36, x37, x38, x39, x8) _ ⟨hS, ⟨(fun h => f0 (upd_ne h (by decide))), (fun h => f1 (upd_ne h (by decide))), (fun h => f2 (upd_ne h (by decide))), (fun h => f3 (upd_ne h (by decide))), (fun h => f4 (upd_ne h (by decide))), (fun h => f6 (upd_ne h (by decide))), (fun _ => rfl), (fun _ => rfl), (fun h => f9 (upd_ne h (by decide))), (fun h => f10 (upd_ne h (by decide)))⟩, j, hj, ⟨((upd_no (by decide)).trans dd5), ((upd_no (by decide)).trans dd11), ((upd_no (by decide)).trans dd12), ((upd_no (by decide)).trans dd13)⟩, ⟨p0, p1, p2, p3, p4⟩⟩
    · rintro d ⟨x27, x28, x29, x30, x31, x32, x33, x34, x35, x36, x37, x38, x39, x8⟩ w' hI hd hdp KQ hK
      dsimp only at hI
      obtain ⟨hS, ⟨f0, f1, f2, f3, f4, f6, f7, f8, f9, f10⟩, j, hj, ⟨dd5, dd11, dd12, dd13⟩, ⟨p0, p1, p2, p3, p4⟩⟩ := hI
      have HF : Hid _ := And.intro hS (And.intro (And.intro f0 (And.intro f1 (And.intro f2 (And.intro f3 (And.intro f4 (And.intro f6 (And.intro f7 (And.intro f8 (And.intro f9 f10))))))))) (And.intro hj (And.intro (And.intro dd5 (And.intro dd11 (And.intro dd12 dd13))) (And.intro p0 (And.intro p1 (And.intro p2 (And.intro p3 p4)))))))
      clear hS f0 f1 f2 f3 f4 f6 f7 f8 f9 f10 hj dd5 dd11 dd12 dd13 p0 p1 p2 p3 p4 hdp hd
      refine Opn.mk ?_
      dsimp only
      go_simp
      obtain ⟨hS, ⟨f0, f1, f2, f3, f4, f6, f7, f8, f9, f10⟩, hj, ⟨dd5, dd11, dd12, dd13⟩, ⟨p0, p1, p2, p3, p4⟩⟩ := HF.out
      exact hK.out (x27, x28, x29, x30, x31, x32, x33, x34, x35, .pointer (some ⟨bx, 2, none⟩), x37, x38, x39, x8) _ ⟨hS, ⟨(fun h => f0 (upd_ne h (by decide))), (fun h => f1 (upd_ne h (by decide))), (fun h => f2 (upd_ne h (by decide))), (fun h => f3 (upd_ne h (by decide))), (fun h => f4 (upd_ne h (by decide))), (fun h => f6 (upd_ne h (by decide))), (fun h => f7 (upd_ne h (by decide))), (fun h => f8 (upd_ne h (by decide))), (fun _ => rfl), (fun h => f10 (upd_ne h (by decide)))⟩, j, hj, ⟨((upd_no (by decide)).trans dd5), ((upd_no (by decide)).trans dd11), ((upd_no (by decide)).trans dd12), ((upd_no (by decide)).trans dd13)⟩, ⟨p0, p1, p2, p3, p4⟩⟩
    · rintro d ⟨x27, x28, x29, x30, x31, x32, x33, x34, x35, x36, x37, x38, x39, x8⟩ w' hI hd hdp KQ hK
      dsimp only at hI
      obtain ⟨hS, ⟨f0, f1, f2, f3, f4, f6, f7, f8, f9, f10⟩, j, hj, ⟨dd5, dd11, dd12, dd13⟩, ⟨p0, p1, p2, p3, p4⟩⟩ := hI
      obtain rfl := f9 (hdp 9 (by decide +kernel))
      have cc : w'.cell? ⟨bx, 2, none⟩ = some (.slice ua bs.length uc) := BxA.cell hS 2 _ rfl
      have HF : Hid _ := And.intro hS (And.intro (And.intro f0 (And.intro f1 (And.intro f2 (And.intro f3 (And.intro f4 (And.intro f6 (And.intro f7 (And.intro f8 (And.intro f9 f10))))))))) (And.intro hj (And.intro (And.intro dd5 (And.intro dd11 (And.intro dd12 dd13))) (And.intro p0 (And.intro p1 (And.intro p2 (And.intro p3 p4)))))))
      clear hS f0 f1 f2 f3 f4 f6 f7 f8 f9 f10 hj dd5 dd11 dd12 dd13 p0 p1 p2 p3 p4 hdp hd
      refine Opn.mk ?_
      dsimp only
      go_simp
      obtain ⟨hS, ⟨f0, f1, f2, f3, f4, f6, f7, f8, f9, f10⟩, hj, ⟨dd5, dd11, dd12, dd13⟩, ⟨p0, p1, p2, p3, p4⟩⟩ := HF.out
      exact hK.out (x27, x28, x29, x30, x31, x32, x33, x34, x35, .pointer (some ⟨bx, 2, none⟩), .slice ua bs.length uc, x38, x39, x8) _ ⟨hS, ⟨(fun h => f0 (upd_ne h (by decide))), (fun h => f1 (upd_ne h (by decide))), (fun h => f2 (upd_ne h (by decide))), (fun h => f3 (upd_ne h (by decide))), (fun h => f4 (upd_ne h (by decide))), (fun h => f6 (upd_ne h (by decide))), (fun h => f7 (upd_ne h (by decide))), (fun h => f8 (upd_ne h (by decide))), (fun _ => rfl), (fun _ => rfl)⟩, j, hj, ⟨((upd_no (by decide)).trans dd5), ((upd_no (by decide)).trans dd11), ((upd_no (by decide)).trans dd12), ((upd_no (by decide)).trans dd13)⟩, ⟨p0, p1, p2, p3, p4⟩⟩
    · rintro d ⟨x27, x28, x29, x30, x31, x32, x33, x34, x35, x36, x37, x38, x39, x8⟩ w' hI hd hdp KQ hK
      dsimp only at hI
      obtain ⟨hS, ⟨f0, f1, f2, f3, f4, f6, f7, f8, f9, f10⟩, j, hj, ⟨dd5, dd11, dd12, dd13⟩, ⟨p0, p1, p2, p3, p4⟩⟩ := hI
      obtain rfl := f6 (hdp 6 (by decide +kernel))
      obtain rfl := f8 (hdp 8 (by decide +kernel))
      obtain rfl := f10 (hdp 10 (by decide +kernel))
      obtain rfl := ph_eq (k := 0) dd11 hd dd5 (hdp 5 (by decide +kernel))
      have s := p1 rfl
      clear p0 p1 p2 p3 p4 hj
      obtain ⟨ea, s⟩ := s
      have kk := ps_rput s HRX.out A (.slice ua bs.length uc) bs HN.out.1 HOK.out.r HNN.out.2.2.2.1 HN.out.2.2.2.2.2.2.1 HN.out.2.2.2.1
      rw [HC2.out] at kk
      have HG : Hid _ := And.intro hS (And.intro ea s)
      clear hS s ea
      have HF : Hid _ := And.intro (And.intro f0 (And.intro f1 (And.intro f2 (And.intro f3 (And.intro f4 (And.intro f6 (And.intro f7 (And.intro f8 (And.intro f9 f10))))))))) (And.intro dd5 (And.intro dd11 (And.intro dd12 dd13)))
      clear f0 f1 f2 f3 f4 f6 f7 f8 f9 f10 dd5 dd11 dd12 dd13 hdp hd
      refine Opn.mk ?_
      dsimp only
      go_simp
      go_wp2_with (first | (go_at_call 33; with_reducible refine kk.mono ?_; rintro e5 w5 ⟨rfl, G5⟩))
      obtain ⟨hS, ea, s⟩ := HG.out
      obtain ⟨⟨f0, f1, f2, f3, f4, f6, f7, f8, f9, f10⟩, ⟨dd5, dd11, dd12, dd13⟩⟩ := HF.out
      refine hK.out (x27, x28, x29, x30, x31, x32, .pointer (some ⟨rp, 0, none⟩), x34, .string ⟨A.toArray⟩, x36, .slice ua bs.length uc, .int .i64 (c : Int), x39, x8) _ ⟨?sg, ⟨(fun h => f0 (upd_ne h (by decide))), (fun h => f1 (upd_ne h (by decide))), (fun h => f2 (upd_ne h (by decide))), (fun h => f3 (upd_ne h (by decide))), (fun h => f4 (upd_ne h (by decide))), (fun _ => rfl), (fun h => f7 (upd_ne h (by decide))), (fun _ => rfl), (fun h => f9 (upd_ne h (by decide))), (fun _ => rfl)⟩, 2, by decide, ⟨((upd_no (by decide)).trans (dd5.trans (by decide))), (by simp [upd]), ((upd_no (by decide)).trans (dd12.trans (by decide))), ((upd_no (by decide)).trans (dd13.trans (by decide)))⟩, ⟨(fun h => absurd h (by decide)), (fun h => absurd h (by decide)), (fun _ => ?new), (fun h => absurd h (by decide)), (fun h => absurd h (by decide))⟩⟩
      case sg => exact G5.box
      case new =>
        exact ⟨ea, rfl, G5⟩
    · rintro d ⟨x27, x28, x29, x30, x31, x32, x33, x34, x35, x36, x37, x38, x39, x8⟩ w' hI hd hdp KQ hK
      dsimp only at hI
      obtain ⟨hS, ⟨f0, f1, f2, f3, f4, f6, f7, f8, f9, f10⟩, j, hj, ⟨dd5, dd11, dd12, dd13⟩, ⟨p0, p1, p2, p3, p4⟩⟩ := hI
      obtain rfl := ph_eq (k := 1) dd12 hd dd11 (hdp 11 (by decide +kernel))
      have s := p2 rfl
      clear p0 p1 p2 p3 p4 hj
      obtain ⟨ea, eb, s⟩ := s
      subst ea
      subst eb
      have HG : Hid _ := And.intro hS s
      clear hS s
      have HF : Hid _ := And.intro (And.intro f0 (And.intro f1 (And.intro f2 (And.intro f3 (And.intro f4 (And.intro f6 (And.intro f7 (And.intro f8 (And.intro f9 f10))))))))) (And.intro dd5 (And.intro dd11 (And.intro dd12 dd13)))
      clear f0 f1 f2 f3 f4 f6 f7 f8 f9 f10 dd5 dd11 dd12 dd13 hdp hd
      refine Opn.mk ?_
      dsimp only
      go_simp
      obtain ⟨hS, s⟩ := HG.out
      obtain ⟨⟨f0, f1, f2, f3, f4, f6, f7, f8, f9, f10⟩, ⟨dd5, dd11, dd12, dd13⟩⟩ := HF.out
      refine hK.out (x27, x28, x29, x30, x31, .int .i64 (c : Int), x33, x34, x35, x36, x37, .int .i64 (c : Int), .bool true, x8) _ ⟨?sg, ⟨(fun h => f0 (upd_ne h (by decide))), (fun h => f1 (upd_ne h (by decide))), (fun h => f2 (upd_ne h (by decide))), (fun h => f3 (upd_ne h (by decide))), (fun h => f4 (upd_ne h (by decide))), (fun h => f6 (upd_ne h (by decide))), (fun h => f7 (upd_ne h (by decide))), (fun h => f8 (upd_ne h (by decide))), (fun h => f9 (upd_ne h (by decide))), (fun h => f10 (upd_ne h (by decide)))⟩, 3, by decide, ⟨((upd_no (by decide)).trans (dd5.trans (by decide))), ((upd_no (by decide)).trans (dd11.trans (by decide))), (by simp [upd]), ((upd_no (by decide)).trans (dd13.trans (by decide)))⟩, ⟨(fun h => absurd h (by decide)), (fun h => absurd h (by decide)), (fun h => absurd h (by decide)), (fun _ => ?new), (fun h => absurd h (by decide))⟩⟩
      case sg => exact hS
      case new =>
        exact ⟨rfl, s⟩
    · rintro d ⟨x27, x28, x29, x30, x31, x32, x33, x34, x35, x36, x37, x38, x39, x8⟩ w' hI hd hdp KQ hK
      dsimp only at hI
      obtain ⟨hS, ⟨f0, f1, f2, f3, f4, f6, f7, f8, f9, f10⟩, j, hj, ⟨dd5, dd11, dd12, dd13⟩, ⟨p0, p1, p2, p3, p4⟩⟩ := hI
      obtain rfl := ph_eq (k := 2) dd13 hd dd12 (hdp 12 (by decide +kernel))
      have s := p3 rfl
      clear p0 p1 p2 p3 p4 hj
      obtain ⟨ea, s⟩ := s
      subst ea
      have HG : Hid _ := And.intro hS s
      clear hS s
      have HF : Hid _ := And.intro (And.intro f0 (And.intro f1 (And.intro f2 (And.intro f3 (And.intro f4 (And.intro f6 (And.intro f7 (And.intro f8 (And.intro f9 f10))))))))) (And.intro dd5 (And.intro dd11 (And.intro dd12 dd13)))
      clear f0 f1 f2 f3 f4 f6 f7 f8 f9 f10 dd5 dd11 dd12 dd13 hdp hd
      refine Opn.mk ?_
      dsimp only
      go_simp
      obtain ⟨hS, s⟩ := HG.out
      obtain ⟨⟨f0, f1, f2, f3, f4, f6, f7, f8, f9, f10⟩, ⟨dd5, dd11, dd12, dd13⟩⟩ := HF.out
      refine hK.out (x27, x28, x29, x30, x31, x32, x33, x34, x35, x36, x37, x38, .bool true, .bool true) _ ⟨?sg, ⟨(fun h => f0 (upd_ne h (by decide))), (fun h => f1 (upd_ne h (by decide))), (fun h => f2 (upd_ne h (by decide))), (fun h => f3 (upd_ne h (by decide))), (fun h => f4 (upd_ne h (by decide))), (fun h => f6 (upd_ne h (by decide))), (fun h => f7 (upd_ne h (by decide))), (fun h => f8 (upd_ne h (by decide))), (fun h => f9 (upd_ne h (by decide))), (fun h => f10 (upd_ne h (by decide)))⟩, 4, by decide, ⟨((upd_no (by decide)).trans (dd5.trans (by decide))), ((upd_no (by decide)).trans (dd11.trans (by decide))), ((upd_no (by decide)).trans (dd12.trans (by decide))), (by simp [upd])⟩, ⟨(fun h => absurd h (by decide)), (fun h => absurd h (by decide)), (fun h => absurd h (by decide)), (fun h => absurd h (by decide)), (fun _ => ?new)⟩⟩
      case sg => exact hS
      case new =>
        exact ⟨rfl, s⟩
  case he27 =>
    rintro d ⟨x27, x28, x29, x30, x31, x32, x33, x34, x35, x36, x37, x38, x39, x8⟩ w' hall hI
    dsimp only at hI
    obtain ⟨hS, ⟨f0, f1, f2, f3, f4, f6, f7, f8, f9, f10⟩, j, hj, ⟨dd5, dd11, dd12, dd13⟩, ⟨p0, p1, p2, p3, p4⟩⟩ := hI
    obtain rfl := ph_end (k := 3) hj dd13 (hall 13 (by decide))
    have s := p4 rfl
    clear hall hj f0 f1 f2 f3 f4 f6 f7 f8 f9 f10 dd5 dd11 dd12 dd13 p0 p1 p2 p3 p4
    obtain ⟨ea, s⟩ := s
    subst ea
    have HG : Hid _ := s
    clear hS s
    dsimp only
    go_wp2_with fail
    go_ret
    exact ⟨rfl, ⟨_, _, Ps.qp (t0 := tr) HG.out (HNN.out.2.2.2.2.1) (HR.out.putB A bs).2 (rputB_pt tr A bs).2 HB.out.1 (by rw [(rputB_pt tr A bs).1]; exact HB.out.2.1) (nms_putB HM.out A bs)⟩⟩
set_option maxRecDepth 100000 in
set_option maxHeartbeats 3200000 in
theorem both_1 (w0 w : World) (sp dp rp m : Nat) (sd : St) (tr : RSt) (K n : Int) (A : Str) (ua : Option Addr) (uc : Nat) (bs : Str) (h : Qp w0 w sp dp rp m sd tr) (hm : m < 100) (ok : OpM.Ok w0 1048576 ⟨K, A, .slice ua bs.length uc, bs, n⟩) (hk : absN K % 13 = 1) :
    Calls Try.prog 13 #[.pointer (some ⟨sp, 0, none⟩), .pointer (some ⟨dp, 0, none⟩), .pointer (some ⟨rp, 0, none⟩), .agg #[.int .i64 K, .string ⟨A.toArray⟩, .slice ua bs.length uc, .int .i64 n]] w fun e w' => e = .returned (.bool true) ∧ Bth w0 w' sp dp rp m := by
  have mixed : Try.prog.follows .mixedOrders = true := by kernel_rfl
  obtain ⟨W, hW⟩ : ∃ W, W = w.alloc (.cells #[.int .i64 K, .string ⟨A.toArray⟩, .slice ua bs.length uc, .int .i64 n] 35) := ⟨_, rfl⟩
  have hq := h.box hW
  have kAb := abs_any W K ok.k1 ok.k2
  have hab : (absN K : Int) % 13 = 1 := by omega
  have HR : Hid (Rel sd tr) := h.rel
  have HRX : Hid (∃ s, Rel s tr) := ⟨_, h.rel⟩
  have HM : Hid (NmS sd) := h.nm
  have HB : Hid (tr.n ≤ m * 1004 ∧ tr.part ≤ 9223372036854775807 ∧ m < 100) := ⟨h.n, h.part, hm⟩
  have HW : Hid (W = w.alloc (.cells #[.int .i64 K, .string ⟨A.toArray⟩, .slice ua bs.length uc, .int .i64 n] 35)) := hW
  have hA : A.length ≤ 1048576 := ok.a
  have HOK : Hid (OpM.Ok w0 1048576 ⟨K, A, .slice ua bs.length uc, bs, n⟩) := ok
  have hl : bs.length ≤ 1048576 := ok.rl
  have hop : sd.ops < 990000 := by have := h.n; have := h.rel.n; omega
  have hopt : tr.n < 990000 := by have := h.n; omega
  have HQ : Hid (Ps w0 W sp dp rp (m * 4194304) sd tr w.heap.size 35 #[.int .i64 K, .string ⟨A.toArray⟩, .slice ua bs.length uc, .int .i64 n]) := hq
  obtain ⟨bx, hbx⟩ : ∃ b, b = w.heap.size := ⟨_, rfl⟩
  rw [← hbx] at HQ
  have HN : Hid (A.length ≤ 2000000 ∧ sd.ops < 990000 ∧ tr.n < 990000 ∧ tr.part ≤ 9223372036854775807 ∧ Srt tr.fs ∧ sd.ops < 999000 ∧ tr.n < 999000 ∧ sd.ops < 1000000 ∧ tr.n < 1000000) := ⟨by omega, hop, hopt, h.part, h.rel.sp.srt, by omega, by omega, by omega, by omega⟩
  have HNN : Hid (m * 4194304 ≤ 140737488355328 ∧ m * 4194304 ≤ (m + 1) * 4194304 ∧ m * 4194304 + 1048584 ≤ 140737488355328 ∧ m * 4194304 + 1048584 + 1048584 ≤ 140737488355328 ∧ m * 4194304 + 1048584 + 1048584 ≤ (m + 1) * 4194304 ∧ m * 4194304 + bs.length ≤ 140737488355328 ∧ m * 4194304 + bs.length + bs.length ≤ 140737488355328 ∧ m * 4194304 + bs.length + bs.length ≤ (m + 1) * 4194304) := by apply hide; omega
  have c0 := HQ.out.box.cell 0 _ rfl
  clear hq h ok hW hm hA hl hop hopt hk
  go_enter Try.func13, Try.ntmps13
  go_wp2_with fail
  rw [← HW.out]
  go_wp2_with fail
  refine kAb.mono ?_
  rintro e wq ⟨rfl, rfl⟩
  clear kAb
  go_upto_region 6 with fail
  rw [← hbx]
  try rw [hab]
  clear hbx hab
  clear c0
  obtain ⟨c, hc⟩ : ∃ c, c = (bput sd A bs).1 := ⟨_, rfl⟩
  have HC1 : Hid ((bput sd A bs).1 = c) := hc.symm
  have HC2 : Hid ((rputB tr A bs).1 = c) := by apply hide; rw [hc]; exact (HR.out.putB A bs).1.symm
  have hSig0 : BxA wq.drew bx 35 #[.int .i64 K, .string ⟨A.toArray⟩, .slice ua bs.length uc, .int .i64 n] := HQ.out.box
  have hS00 : Ps w0 wq.drew sp dp rp (m * 4194304) sd tr bx 35 #[.int .i64 K, .string ⟨A.toArray⟩, .slice ua bs.length uc, .int .i64 n] := ps_drew HQ.out
  clear hc
  refine wp_region_invF (β := Value × Value × Value × Value × Value × Value × Value × Value × Value × Value × Value × Value × Value × Value) (fun a0 xq => ((((((((((((((a0.put (some 27) (xq.1)).put (some 28) (xq.2.1)).put (some 29) (xq.2.2.1)).put (some 30) (xq.2.2.2.1)).put (some 31) (xq.2.2.2.2.1)).put (some 32) (xq.2.2.2.2.2.1)).put (some 33) (xq.2.2.2.2.2.2.1)).put (some 34) (xq.2.2.2.2.2.2.2.1)).put (some 35) (xq.2.2.2.2.2.2.2.2.1)).put (some 36) (xq.2.2.2.2.2.2.2.2.2.1)).put (some 37) (xq.2.2.2.2.2.2.2.2.2.2.1)).put (some 38) (xq.2.2.2.2.2.2.2.2.2.2.2.1)).put (some 39) (xq.2.2.2.2.2.2.2.2.2.2.2.2.1)).put (some 8) (xq.2.2.2.2.2.2.2.2.2.2.2.2.2))) ?fr27 (fun xq d w' => (BxA w' bx 35 #[.int .i64 K, .string ⟨A.toArray⟩, .slice ua bs.length uc, .int .i64 n]) ∧ ((d 0 = true → (xq.1) = .pointer (some ⟨sp, 0, none⟩)) ∧ (d 1 = true → (xq.2.1) = .pointer (some ⟨bx, 1, none⟩)) ∧ (d 2 = true → (xq.2.2.1) = .string ⟨A.toArray⟩) ∧ (d 3 = true → (xq.2.2.2.1) = .pointer (some ⟨bx, 2, none⟩)) ∧ (d 4 = true → (xq.2.2.2.2.1) = .slice ua bs.length uc) ∧ (d 6 = true → (xq.2.2.2.2.2.2.1) = .pointer (some ⟨rp, 0, none⟩)) ∧ (d 7 = true → (xq.2.2.2.2.2.2.2.1) = .pointer (some ⟨bx, 1, none⟩)) ∧ (d 8 = true → (xq.2.2.2.2.2.2.2.2.1) = .string ⟨A.toArray⟩) ∧ (d 9 = true → (xq.2.2.2.2.2.2.2.2.2.1) = .pointer (some ⟨bx, 2, none⟩)) ∧ (d 10 = true → (xq.2.2.2.2.2.2.2.2.2.2.1) = .slice ua bs.length uc)) ∧ ∃ j : Nat, j ≤ 4 ∧ (d 5 = decide (0 < j) ∧ d 11 = decide (1 < j) ∧ d 12 = decide (2 < j) ∧ d 13 = decide (3 < j)) ∧ ((j = 0 → Ps w0 w' sp dp rp (m * 4194304) (sd) (tr) bx 35 #[.int .i64 K, .string ⟨A.toArray⟩, .slice ua bs.length uc, .int .i64 n]) ∧ (j = 1 → (xq.2.2.2.2.2.1) = .int .i64 (c : Int) ∧ Ps w0 w' sp dp rp (m * 4194304 + 1048584) ((bput sd A bs).2) (tr) bx 35 #[.int .i64 K, .string ⟨A.toArray⟩, .slice ua bs.length uc, .int .i64 n]) ∧ (j = 2 → (xq.2.2.2.2.2.1) = .int .i64 (c : Int) ∧ (xq.2.2.2.2.2.2.2.2.2.2.2.1) = .int .i64 (c : Int) ∧ Ps w0 w' sp dp rp (m * 4194304 + 1048584 + 1048584) ((bput sd A bs).2) ((rputB tr A bs).2) bx 35 #[.int .i64 K, .string ⟨A.toArray⟩, .slice ua bs.length uc, .int .i64 n]) ∧ (j = 3 → (xq.2.2.2.2.2.2.2.2.2.2.2.2.1) = .bool true ∧ Ps w0 w' sp dp rp (m * 4194304 + 1048584 + 1048584) ((bput sd A bs).2) ((rputB tr A bs).2) bx 35 #[.int .i64 K, .string ⟨A.toArray⟩, .slice ua bs.length uc, .int .i64 n]) ∧ (j = 4 → (xq.2.2.2.2.2.2.2.2.2.2.2.2.2) = .bool true ∧ Ps w0 w' sp dp rp (m * 4194304 + 1048584 + 1048584) ((bput sd A bs).2) ((rputB tr A bs).2) bx 35 #[.int .i64 K, .string ⟨A.toArray⟩, .slice ua bs.length uc, .int .i64 n]))) ?lay27 mixed (by kernel_rfl) ?h027 ?hs27 ?he27
  case lay27 =>
    intro xq
    simp only [Act.put, List.setIfInBounds_toArray, List.set_cons_zero, List.set_cons_succ]
    rfl
  case h027 =>
    refine ⟨(undef, undef, undef, undef, undef, undef, undef, undef, undef, undef, undef, undef, undef, .bool false), rfl, ?sig27, ⟨(fun h => by cases h), (fun h => by cases h), (fun h => by cases h), (fun h => by cases h), (fun h => by cases h), (fun h => by cases h), (fun h => by cases h), (fun h => by cases h), (fun h => by cases h), (fun h => by cases h)⟩, 0, Nat.zero_le _, ⟨rfl, rfl, rfl, rfl⟩, ?S027, (fun h => by cases h), (fun h => by cases h), (fun h => by cases h), (fun h => by cases h)⟩
    case sig27 => exact hSig0
    case S027 => exact fun _ => hS00
  case hs27 =>
    refine ⟨?_, ?_, ?_, ?_, ?_, ?_, ?_, ?_, ?_, ?_, ?_, ?_, ?_, ?_, trivial⟩
    · rintro d ⟨x27, x28, x29, x30, x31, x32, x33, x34, x35, x36, x37, x38, x39, x8⟩ w' hI hd hdp KQ hK
      dsimp only at hI
      obtain ⟨hS, ⟨f0, f1, f2, f3, f4, f6, f7, f8, f9, f10⟩, j, hj, ⟨dd5, dd11, dd12, dd13⟩, ⟨p0, p1, p2, p3, p4⟩⟩ := hI
      have HF : Hid _ := And.intro hS (And.intro (And.intro f0 (And.intro f1 (And.intro f2 (And.intro f3 (And.intro f4 (And.intro f6 (And.intro f7 (And.intro f8 (And.intro f9 f10))))))))) (And.intro hj (And.intro (And.intro dd5 (And.intro dd11 (And.intro dd12 dd13))) (And.intro p0 (And.intro p1 (And.intro p2 (And.intro p3 p4)))))))
      clear hS f0 f1 f2 f3 f4 f6 f7 f8 f9 f10 hj dd5 dd11 dd12 dd13 p0 p1 p2 p3 p4 hdp hd
      refine Opn.mk ?_
      dsimp only
      go_simp
      obtain ⟨hS, ⟨f0, f1, f2, f3, f4, f6, f7, f8, f9, f10⟩, hj, ⟨dd5, dd11, dd12, dd13⟩, ⟨p0, p1, p2, p3, p4⟩⟩ := HF.out
      exact hK.out (.pointer (some ⟨sp, 0, none⟩), x28, x29, x30, x31, x32, x33, x34, x35, x36, x37, x38, x39, x8) _ ⟨hS, ⟨(fun _ => rfl), (fun h => f1 (upd_ne h (by decide))), (fun h => f2 (upd_ne h (by decide))), (fun h => f3 (upd_ne h (by decide))), (fun h => f4 (upd_ne h (by decide))), (fun h => f6 (upd_ne h (by decide))), (fun h => f7 (upd_ne h (by decide))), (fun h => f8 (upd_ne h (by decide))), (fun h => f9 (upd_ne h (by decide))), (fun h => f10 (upd_ne h (by decide)))⟩, j, hj, ⟨((upd_no (by decide)).trans dd5), ((upd_no (by decide)).trans dd11), ((upd_no (by decide)).trans dd12), ((upd_no (by decide)).trans dd13)⟩, ⟨p0, p1, p2, p3, p4⟩⟩
    · rintro d ⟨x27, x28, x29, x30, x31, x32, x33, x34, x35, x36, x37, x38, x39, x8⟩ w' hI hd hdp KQ hK
      dsimp only at hI
      obtain ⟨hS, ⟨f0, f1, f2, f3, f4, f6, f7, f8, f9, f10⟩, j, hj, ⟨dd5, dd11, dd12, dd13⟩, ⟨p0, p1, p2, p3, p4⟩⟩ := hI
      have HF : Hid _ := And.intro hS (And.intro (And.intro f0 (And.intro f1 (And.intro f2 (And.intro f3 (And.intro f4 (And.intro f6 (And.intro f7 (And.intro f8 (And.intro f9 f10))))))))) (And.intro hj (And.intro (And.intro dd5 (And.intro dd11 (And.intro dd12 dd13))) (And.intro p0 (And.intro p1 (And.intro p2 (And.intro p3 p4)))))))
      clear hS f0 f1 f2 f3 f4 f6 f7 f8 f9 f10 hj dd5 dd11 dd12 dd13 p0 p1 p2 p3 p4 hdp hd
      refine Opn.mk ?_
      dsimp only
      go_simp
      obtain ⟨hS, ⟨f0, f1, f2, f3, f4, f6, f7, f8, f9, f10⟩, hj, ⟨dd5, dd11, dd12, dd13⟩, ⟨p0, p1, p2, p3, p4⟩⟩ := HF.out
      exact hK.out (x27, .pointer (some ⟨bx, 1, none⟩), x29, x30, x31, x32, x33, x34, x35, x36, x37, x38, x39, x8) _ ⟨hS, ⟨(fun h => f0 (upd_ne h (by decide))), (fun _ => rfl), (fun h => f2 (upd_ne h (by decide))), (fun h => f3 (upd_ne h (by decide))), (fun h => f4 (upd_ne h (by decide))), (fun h => f6 (upd_ne h (by decide))), (fun h => f7 (upd_ne h (by decide))), (fun h => f8 (upd_ne h (by decide))), (fun h => f9 (upd_ne h (by decide))), (fun h => f10 (upd_ne h (by decide)))⟩, j, hj, ⟨((upd_no (by decide)).trans dd5), ((upd_no (by decide)).trans dd11), ((upd_no (by decide)).trans dd12), ((upd_no (by decide)).trans dd13)⟩, ⟨p0, p1, p2, p3, p4⟩⟩
    · rintro d ⟨x27, x28, x29, x30, x31, x32, x33, x34, x35, x36, x37, x38, x39, x8⟩ w' hI hd hdp KQ hK
      dsimp only at hI
      obtain ⟨hS, ⟨f0, f1, f2, f3, f4, f6, f7, f8, f9, f10⟩, j, hj, ⟨dd5, dd11, dd12, dd13⟩, ⟨p0, p1, p2, p3, p4⟩⟩ := hI
      obtain rfl := f1 (hdp 1 (by decide +kernel))
      have cc : w'.cell? ⟨bx, 1, none⟩ = some (.string ⟨A.toArray⟩) := BxA.cell hS 1 _ rfl
      have HF : Hid _ := And.intro hS (And.intro (And.intro f0 (And.intro f1 (And.intro f2 (And.intro f3 (And.intro f4 (And.intro f6 (And.intro f7 (And.intro f8 (And.intro f9 f10))))))))) (And.intro hj (And.intro (And.intro dd5 (And.intro dd11 (And.intro dd12 dd13))) (And.intro p0 (And.intro p1 (And.intro p2 (And.intro p3 p4)))))))
      clear hS f0 f1 f2 f3 f4 f6 f7 f8 f9 f10 hj dd5 dd11 dd12 dd13 p0 p1 p2 p3 p4 hdp hd
      refine Opn.mk ?_
      dsimp only
      go_simp
      obtain ⟨hS, ⟨f0, f1, f2, f3, f4, f6, f7, f8, f9, f10⟩, hj, ⟨dd5, dd11, dd12, dd13⟩, ⟨p0, p1, p2, p3, p4⟩⟩ := HF.out
      exact hK.out (x27, .pointer (some ⟨bx, 1, none⟩), .string ⟨A.toArray⟩, x30, x31, x32, x33, x34, x35, x36, x37, x38, x39, x8) _ ⟨hS, ⟨(fun h => f0 (upd_ne h (by decide))), (fun _ => rfl), (fun _ => rfl), (fun h => f3 (upd_ne h (by decide))), (fun h => f4 (upd_ne h (by decide))), (fun h => f6 (upd_ne h (by decide))), (fun h => f7 (upd_ne h (by decide))), (fun h => f8 (upd_ne h (by decide))), (fun h => f9 (upd_ne h (by decide))), (fun h => f10 (upd_ne h (by decide)))⟩, j, hj, ⟨((upd_no (by decide)).trans dd5), ((upd_no (by decide)).trans dd11), ((upd_no (by decide)).trans dd12), ((upd_no (by decide)).trans dd13)⟩, ⟨p0, p1, p2, p3, p4⟩⟩
    · rintro d ⟨x27, x28, x29, x30, x31, x32, x33, x34, x35, x36, x37, x38, x39, x8⟩ w' hI hd hdp KQ hK
      dsimp only at hI
      obtain ⟨hS, ⟨f0, f1, f2, f3, f4, f6, f7, f8, f9, f10⟩, j, hj, ⟨dd5, dd11, dd12, dd13⟩, ⟨p0, p1, p2, p3, p4⟩⟩ := hI
      have HF : Hid _ := And.intro hS (And.intro (And.intro f0 (And.intro f1 (And.intro f2 (And.intro f3 (And.intro f4 (And.intro f6 (And.intro f7 (And.intro f8 (And.intro f9 f10))))))))) (And.intro hj (And.intro (And.intro dd5 (And.intro dd11 (And.intro dd12 dd13))) (And.intro p0 (And.intro p1 (And.intro p2 (And.intro p3 p4)))))))
      clear hS f0 f1 f2 f3 f4 f6 f7 f8 f9 f10 hj dd5 dd11 dd12 dd13 p0 p1 p2 p3 p4 hdp hd
      refine Opn.mk ?_
      dsimp only
      go_simp
      obtain ⟨hS, ⟨f0, f1, f2, f3, f4, f6, f7, f8, f9, f10⟩, hj, ⟨dd5, dd11, dd12, dd13⟩, ⟨p0, p1, p2, p3, p4⟩⟩ := HF.out
      exact hK.out (x27, x28, x29, .pointer (some ⟨bx, 2, none⟩), x31, x32, x33, x34, x35, x36, x37, x38, x39, x8) _ ⟨hS, ⟨(fun h => f0 (upd_ne h (by decide))), (fun h => f1 (upd_ne h (by decide))), (fun h => f2 (upd_ne h (by decide))), (fun _ => rfl), (fun h => f4 (upd_ne h (by decide))), (fun h => f6 (upd_ne h (by decide))), (fun h => f7 (upd_ne h (by decide))), (fun h => f8 (upd_ne h (by decide))), (fun h => f9 (upd_ne h (by decide))), (fun h => f10 (upd_ne h (by decide)))⟩, j, hj, ⟨((upd_no (by decide)).trans dd5), ((upd_no (by decide)).trans dd11), ((upd_no (by decide)).trans dd12), ((upd_no (by decide)).trans dd13)⟩, ⟨p0, p1, p2, p3, p4⟩⟩
    · rintro d ⟨x27, x28, x29, x30, x31, x32, x33, x34, x35, x36, x37, x38, x39, x8⟩ w' hI hd hdp KQ hK
      dsimp only at hI
      obtain ⟨hS, ⟨f0, f1, f2, f3, f4, f6, f7, f8, f9, f10⟩, j, hj, ⟨dd5, dd11, dd12, dd13⟩, ⟨p0, p1, p2, p3, p4⟩⟩ := hI
      obtain rfl := f3 (hdp 3 (by decide +kernel))
      have cc : w'.cell? ⟨bx, 2, none⟩ = some (.slice ua bs.length uc) := BxA.cell hS 2 _ rfl
      have HF : Hid _ := And.intro hS (And.intro (And.intro f0 (And.intro f1 (And.intro f2 (And.intro f3 (And.intro f4 (And.intro f6 (And.intro f7 (And.intro f8 (And.intro f9 f10))))))))) (And.intro hj (And.intro (And.intro dd5 (And.intro dd11 (And.intro dd12 dd13))) (And.intro p0 (And.intro p1 (And.intro p2 (And.intro p3 p4)))))))
      clear hS f0 f1 f2 f3 f4 f6 f7 f8 f9 f10 hj dd5 dd11 dd12 dd13 p0 p1 p2 p3 p4 hdp hd
      refine Opn.mk ?_
      dsimp only
      go_simp
      obtain ⟨hS, ⟨f0, f1, f2, f3, f4, f6, f7, f8, f9, f10⟩, hj, ⟨dd5, dd11, dd12, dd13⟩, ⟨p0, p1, p2, p3, p4⟩⟩ := HF.out
      exact hK.out (x27, x28, x29, .pointer (some ⟨bx, 2, none⟩), .slice ua bs.length uc, x32, x33, x34, x35, x36, x37, x38, x39, x8) _ ⟨hS, ⟨(fun h => f0 (upd_ne h (by decide))), (fun h => f1 (upd_ne h (by decide))), (fun h => f2 (upd_ne h (by decide))), (fun _ => rfl), (fun _ => rfl), (fun h => f6 (upd_ne h (by decide))), (fun h => f7 (upd_ne h (by decide))), (fun h => f8 (upd_ne h (by decide))), (fun h => f9 (upd_ne h (by decide))), (fun h => f10 (upd_ne h (by decide)))⟩, j, hj, ⟨((upd_no (by decide)).trans dd5), ((upd_no (by decide)).trans dd11), ((upd_no (by decide)).trans dd12), ((upd_no (by decide)).trans dd13)⟩, ⟨p0, p1, p2, p3, p4⟩⟩
    · rintro d ⟨x27, x28, x29, x30, x31, x32, x33, x34, x35, x36, x37, x38, x39, x8⟩ w' hI hd hdp KQ hK
      dsimp only at hI
      obtain ⟨hS, ⟨f0, f1, f2, f3, f4, f6, f7, f8, f9, f10⟩, j, hj, ⟨dd5, dd11, dd12, dd13⟩, ⟨p0, p1, p2, p3, p4⟩⟩ := hI
      obtain rfl := f0 (hdp 0 (by decide +kernel))
      obtain rfl := f2 (hdp 2 (by decide +kernel))
      obtain rfl := f4 (hdp 4 (by decide +kernel))
      obtain rfl := ph_zero dd5 hd
      have s := p0 rfl
      clear p0 p1 p2 p3 p4 hj
      have kk := ps_put s A (.slice ua bs.length uc) bs HN.out.1 HOK.out.r HNN.out.2.2.1 HN.out.2.2.2.2.2.1
      rw [HC1.out] at kk
      have HG : Hid _ := And.intro hS s
      clear hS s
      have HF : Hid _ := And.intro (And.intro f0 (And.intro f1 (And.intro f2 (And.intro f3 (And.intro f4 (And.intro f6 (And.intro f7 (And.intro f8 (And.intro f9 f10))))))))) (And.intro dd5 (And.intro dd11 (And.intro dd12 dd13)))
      clear f0 f1 f2 f3 f4 f6 f7 f8 f9 f10 dd5 dd11 dd12 dd13 hdp hd
      refine Opn.mk ?_
      dsimp only
      go_simp
      go_wp2_with (first | (go_at_call 19; with_reducible refine kk.mono ?_; rintro e5 w5 ⟨rfl, G5⟩))
      obtain ⟨hS, s⟩ := HG.out
      obtain ⟨⟨f0, f1, f2, f3, f4, f6, f7, f8, f9, f10⟩, ⟨dd5, dd11, dd12, dd13⟩⟩ := HF.out
      refine hK.out (.pointer (some ⟨sp, 0, none⟩), x28, .string ⟨A.toArray⟩, x30, .slice ua bs.length uc, .int .i64 (c : Int), x33, x34, x35, x36, x37, x38, x39, x8) _ ⟨?sg, ⟨(fun _ => rfl), (fun h => f1 (upd_ne h (by decide))), (fun _ => rfl), (fun h => f3 (upd_ne h (by decide))), (fun _ => rfl), (fun h => f6 (upd_ne h (by decide))), (fun h => f7 (upd_ne h (by decide))), (fun h => f8 (upd_ne h (by decide))), (fun h => f9 (upd_ne h (by decide))), (fun h => f10 (upd_ne h (by decide)))⟩, 1, by decide, ⟨(by simp [upd]), ((upd_no (by decide)).trans (dd11.trans (by decide))), ((upd_no (by decide)).trans (dd12.trans (by decide))), ((upd_no (by decide)).trans (dd13.trans (by decide)))⟩, ⟨(fun h => absurd h (by decide)), (fun _ => ?new), (fun h => absurd h (by decide)), (fun h => absurd h (by decide)), (fun h => absurd h (by decide))⟩⟩
      case sg => exact G5.box
      case new =>
        exact ⟨rfl, G5⟩
    · rintro d ⟨x27, x28, x29, x30, x31, x32, x33, x34, x35, x36, x37, x38, x39, x8⟩ w' hI hd hdp KQ hK
      dsimp only at hI
      obtain ⟨hS, ⟨f0, f1, f2, f3, f4, f6, f7, f8, f9, f10⟩, j, hj, ⟨dd5, dd11, dd12, dd13⟩, ⟨p0, p1, p2, p3, p4⟩⟩ := hI
      have HF : Hid _ := And.intro hS (And.intro (And.intro f0 (And.intro f1 (And.intro f2 (And.intro f3 (And.intro f4 (And.intro f6 (And.intro f7 (And.intro f8 (And.intro f9 f10))))))))) (And.intro hj (And.intro (And.intro dd5 (And.intro dd11 (And.intro dd12 dd13))) (And.intro p0 (And.intro p1 (And.intro p2 (And.intro p3 p4)))))))
      clear hS f0 f1 f2 f3 f4 f6 f7 f8 f9 f10 hj dd5 dd11 dd12 dd13 p0 p1 p2 p3 p4 hdp hd
      refine Opn.mk ?_
      dsimp only
      go_simp
      obtain ⟨hS, ⟨f0, f1, f2, f3, f4, f6, f7, f8, f9, f10⟩, hj, ⟨dd5, dd11, dd12, dd13⟩, ⟨p0, p1, p2, p3, p4⟩⟩ := HF.out
      exact hK.out (x27, x28, x29, x30, x31, x32, .pointer (some ⟨rp, 0, none⟩), x34, x35, x36, x37, x38, x39, x8) _ ⟨hS, ⟨(fun h => f0 (upd_ne h (by decide))), (fun h => f1 (upd_ne h (by decide))), (fun h => f2 (upd_ne h (by decide))), (fun h => f3 (upd_ne h (by decide))), (fun h => f4 (upd_ne h (by decide))), (fun _ => rfl), (fun h => f7 (upd_ne h (by decide))), (fun h => f8 (upd_ne h (by decide))), (fun h => f9 (upd_ne h (by decide))), (fun h => f10 (upd_ne h (by decide)))⟩, j, hj, ⟨((upd_no (by decide)).trans dd5), ((upd_no (by decide)).trans dd11), ((upd_no (by decide)).trans dd12), ((upd_no (by decide)).trans dd13)⟩, ⟨p0, p1, p2, p3, p4⟩⟩
    · rintro d ⟨x27, x28, x29, x30, x31, x32, x33, x34, x35, x36, x37, x38, x39, x8⟩ w' hI hd hdp KQ hK
      dsimp only at hI
      obtain ⟨hS, ⟨f0, f1, f2, f3, f4, f6, f7, f8, f9, f10⟩, j, hj, ⟨dd5, dd11, dd12, dd13⟩, ⟨p0, p1, p2, p3, p4⟩⟩ := hI
      have HF : Hid _ := And.intro hS (And.intro (And.intro f0 (And.intro f1 (And.intro f2 (And.intro f3 (And.intro f4 (And.intro f6 (And.intro f7 (And.intro f8 (And.intro f9 f10))))))))) (And.intro hj (And.intro (And.intro dd5 (And.intro dd11 (And.intro dd12 dd13))) (And.intro p0 (And.intro p1 (And.intro p2 (And.intro p3 p4)))))))
      clear hS f0 f1 f2 f3 f4 f6 f7 f8 f9 f10 hj dd5 dd11 dd12 dd13 p0 p1 p2 p3 p4 hdp hd
      refine Opn.mk ?_
      dsimp only
      go_simp
      obtain ⟨hS, ⟨f0, f1, f2, f3, f4, f6, f7, f8, f9, f10⟩, hj, ⟨dd5, dd11, dd12, dd13⟩, ⟨p0, p1, p2, p3, p4⟩⟩ := HF.out
      exact hK.out (x27, x28, x29, x30, x31, x32, x33, .pointer (some ⟨bx, 1, none⟩), x35, x36, x37, x38, x39, x8) _ ⟨hS, ⟨(fun h => f0 (upd_ne h (by decide))), (fun h => f1 (upd_ne h (by decide))), (fun h => f2 (upd_ne h (by decide))), (fun h => f3 (upd_ne h (by decide))), (fun h => f4 (upd_ne h (by decide))), (fun h => f6 (upd_ne h (by decide))), (fun _ => rfl), (fun h => f8 (upd_ne h (by decide))), (fun h => f9 (upd_ne h (by decide))), (fun h => f10 (upd_ne h (by decide)))⟩, j, hj, ⟨((upd_no (by decide)).trans dd5), ((upd_no (by decide)).trans dd11), ((upd_no (by decide)).trans dd12), ((upd_no (by decide)).trans dd13)⟩, ⟨p0, p1, p2, p3, p4⟩⟩
    · rintro d ⟨x27, x28, x29, x30, x31, x32, x33, x34, x35, x36, x37, x38, x39, x8⟩ w' hI hd hdp KQ hK
      dsimp only at hI
      obtain ⟨hS, ⟨f0, f1, f2, f3, f4, f6, f7, f8, f9, f10⟩, j, hj, ⟨dd5, dd11, dd12, dd13⟩, ⟨p0, p1, p2, p3, p4⟩⟩ := hI
      obtain rfl := f7 (hdp 7 (by decide +kernel))
      have cc : w'.cell? ⟨bx, 1, none⟩ = some (.string ⟨A.toArray⟩) := BxA.cell hS 1 _ rfl
      have HF : Hid _ := And.intro hS (And.intro (And.intro f0 (And.intro f1 (And.intro f2 (And.intro f3 (And.intro f4 (And.intro f6 (And.intro f7 (And.intro f8 (And.intro f9 f10))))))))) (And.intro hj (And.intro (And.intro dd5 (And.intro dd11 (And.intro dd12 dd13))) (And.intro p0 (And.intro p1 (And.intro p2 (And.intro p3 p4)))))))
      clear hS f0 f1 f2 f3 f4 f6 f7 f8 f9 f10 hj dd5 dd11 dd12 dd13 p0 p1 p2 p3 p4 hdp hd
      refine Opn.mk ?_
      dsimp only
      go_simp
      obtain ⟨hS, ⟨f0, f1, f2, f3, f4, f6, f7, f8, f9, f10⟩, hj, ⟨dd5, dd11, dd12, dd13⟩, ⟨p0, p1, p2, p3, p4⟩⟩ := HF.out
      exact hK.out (x27, x28, x29, x30, x31, x32, x33, .pointer (some ⟨bx, 1, none⟩), .string ⟨A.toArray⟩, x36, x37, x38, x39, x8) _ ⟨hS, ⟨(fun h => f0 (upd_ne h (by decide))), (fun h => f1 (upd_ne h (by decide))), (fun h => f2 (upd_ne h (by decide))), (fun h => f3 (upd_ne h (by decide))), (fun h => f4 (upd_ne h (by decide))), (fun h => f6 (upd_ne h (by decide))), (fun _ => rfl), (fun _ => rfl), (fun h => f9 (upd_ne h (by decide))), (fun h => f10 (upd_ne h (by decide)))⟩, j, hj, ⟨((upd_no (by decide)).trans dd5), ((upd_no (by decide)).trans dd11), ((upd_no (by decide)).trans dd12), ((upd_no (by decide)).trans dd13)⟩, ⟨p0, p1, p2, p3, p4⟩⟩
    · rintro d ⟨x27, x28, x29, x30, x31, x32, x33, x34, x35, x36, x37, x38, x39, x8⟩ w' hI hd hdp KQ hK
      dsimp only at hI
      obtain ⟨hS, ⟨f0, f1, f2, f3, f4, f6, f7, f8, f9, f10⟩, j, hj, ⟨dd5, dd11, dd12, dd13⟩, ⟨p0, p1, p2, p3, p4⟩⟩ := hI
      have HF : Hid _ := And.intro hS (And.intro (And.intro f0 (And.intro f1 (And.intro f2 (And.intro f3 (And.intro f4 (And.intro f6 (And.intro f7 (And.intro f8 (And.intro f9 f10))))))))) (And.intro hj (And.intro (And.intro dd5 (And.intro dd11 (And.intro dd12 dd13))) (And.intro p0 (And.intro p1 (And.intro p2 (And.intro p3 p4)))))))
      clear hS f0 f1 f2 f3 f4 f6 f7 f8 f9 f10 hj dd5 dd11 dd12 dd13 p0 p1 p2 p3 p4 hdp hd
      refine Opn.mk ?_
      dsimp only
      go_simp
      obtain ⟨hS, ⟨f0, f1, f2, f3, f4, f6, f7, f8, f9, f10⟩, hj, ⟨dd5, dd11, dd12, dd13⟩, ⟨p0, p1, p2, p3, p4⟩⟩ := HF.out
      exact hK.out (x27, x28, x29, x30, x31, x32, x33, x34, x35, .pointer (some ⟨bx, 2, none⟩), x37, x38, x39, x8) _ ⟨hS, ⟨(fun h => f0 (upd_ne h (by decide))), (fun h => f1 (upd_ne h (by decide))), (fun h => f2 (upd_ne h (by decide))), (fun h => f3 (upd_ne h (by decide))), (fun h => f4 (upd_ne h (by decide))), (fun h => f6 (upd_ne h (by decide))), (fun h => f7 (upd_ne h (by decide))), (fun h => f8 (upd_ne h (by decide))), (fun _ => rfl), (fun h => f10 (upd_ne h (by decide)))⟩, j, hj, ⟨((upd_no (by decide)).trans dd5), ((upd_no (by decide)).trans dd11), ((upd_no (by decide)).trans dd12), ((upd_no (by decide)).trans dd13)⟩, ⟨p0, p1, p2, p3, p4⟩⟩
    · rintro d ⟨x27, x28, x29, x30, x31, x32, x33, x34, x35, x36, x37, x38, x39, x8⟩ w' hI hd hdp KQ hK
      dsimp only at hI
      obtain ⟨hS, ⟨f0, f1, f2, f3, f4, f6, f7, f8, f9, f10⟩, j, hj, ⟨dd5, dd11, dd12, dd13⟩, ⟨p0, p1, p2, p3, p4⟩⟩ := hI
      obtain rfl := f9 (hdp 9 (by decide +kernel))
      have cc : w'.cell? ⟨bx, 2, none⟩ = some (.slice ua bs.length uc) := BxA.cell hS 2 _ rfl
      have HF : Hid _ := And.intro hS (And.intro (And.intro f0 (And.intro f1 (And.intro f2 (And.intro f3 (And.intro f4 (And.intro f6 (And.intro f7 (And.intro f8 (And.intro f9 f10))))))))) (And.intro hj (And.intro (And.intro dd5 (And.intro dd11 (And.intro dd12 dd13))) (And.intro p0 (And.intro p1 (And.intro p2 (And.intro p3 p4)))))))
      clear hS f0 f1 f2 f3 f4 f6 f7 f8 f9 f10 hj dd5 dd11 dd12 dd13 p0 p1 p2 p3 p4 hdp hd
      refine Opn.mk ?_
      dsimp only
      go_simp
      obtain ⟨hS, ⟨f0, f1, f2, f3, f4, f6, f7, f8, f9, f10⟩, hj, ⟨dd5, dd11, dd12, dd13⟩, ⟨p0, p1, p2, p3, p4⟩⟩ := HF.out
      exact hK.out (x27, x28, x29, x30, x31, x32, x33, x34, x35, .pointer (some ⟨bx, 2, none⟩), .slice ua bs.length uc, x38, x39, x8) _ ⟨hS, ⟨(fun h => f0 (upd_ne h (by decide))), (fun h => f1 (upd_ne h (by decide))), (fun h => f2 (upd_ne h (by decide))), (fun h => f3 (upd_ne h (by decide))), (fun h => f4 (upd_ne h (by decide))), (fun h => f6 (upd_ne h (by decide))), (fun h => f7 (upd_ne h (by decide))), (fun h => f8 (upd_ne h (by decide))), (fun _ => rfl), (fun _ => rfl)⟩, j, hj, ⟨((upd_no (by decide)).trans dd5), ((upd_no (by decide)).trans dd11), ((upd_no (by decide)).trans dd12), ((upd_no (by decide)).trans dd13)⟩, ⟨p0, p1, p2, p3, p4⟩⟩
    · rintro d ⟨x27, x28, x29, x30, x31, x32, x33, x34, x35, x36, x37, x38, x39, x8⟩ w' hI hd hdp KQ hK
      dsimp only at hI
      obtain ⟨hS, ⟨f0, f1, f2, f3, f4, f6, f7, f8, f9, f10⟩, j, hj, ⟨dd5, dd11, dd12, dd13⟩, ⟨p0, p1, p2, p3, p4⟩⟩ := hI
      obtain rfl := f6 (hdp 6 (by decide +kernel))
      obtain rfl := f8 (hdp 8 (by decide +kernel))
      obtain rfl := f10 (hdp 10 (by decide +kernel))
      obtain rfl := ph_eq (k := 0) dd11 hd dd5 (hdp 5 (by decide +kernel))
      have s := p1 rfl
      clear p0 p1 p2 p3 p4 hj
      obtain ⟨ea, s⟩ := s
      have kk := ps_rput s HRX.out A (.slice ua bs.length uc) bs HN.out.1 HOK.out.r HNN.out.2.2.2.1 HN.out.2.2.2.2.2.2.1 HN.out.2.2.2.1
      rw [HC2.out] at kk
      have HG : Hid _ := And.intro hS (And.intro ea s)
      clear hS s ea
      have HF : Hid _ := And.intro (And.intro f0 (And.intro f1 (And.intro f2 (And.intro f3 (And.intro f4 (And.intro f6 (And.intro f7 (And.intro f8 (And.intro f9 f10))))))))) (And.intro dd5 (And.intro dd11 (And.intro dd12 dd13)))
      clear f0 f1 f2 f3 f4 f6 f7 f8 f9 f10 dd5 dd11 dd12 dd13 hdp hd
      refine Opn.mk ?_
      dsimp only
      go_simp
      go_wp2_with (first | (go_at_call 33; with_reducible refine kk.mono ?_; rintro e5 w5 ⟨rfl, G5⟩))
      obtain ⟨hS, ea, s⟩ := HG.out
      obtain ⟨⟨f0, f1, f2, f3, f4, f6, f7, f8, f9, f10⟩, ⟨dd5, dd11, dd12, dd13⟩⟩ := HF.out
      refine hK.out (x27, x28, x29, x30, x31, x32, .pointer (some ⟨rp, 0, none⟩), x34, .string ⟨A.toArray⟩, x36, .slice ua bs.length uc, .int .i64 (c : Int), x39, x8) _ ⟨?sg, ⟨(fun h => f0 (upd_ne h (by decide))), (fun h => f1 (upd_ne h (by decide))), (fun h => f2 (upd_ne h (by decide))), (fun h => f3 (upd_ne h (by decide))), (fun h => f4 (upd_ne h (by decide))), (fun _ => rfl), (fun h => f7 (upd_ne h (by decide))), (fun _ => rfl), (fun h => f9 (upd_ne h (by decide))), (fun _ => rfl)⟩, 2, by decide, ⟨((upd_no (by decide)).trans (dd5.trans (by decide))), (by simp [upd]), ((upd_no (by decide)).trans (dd12.trans (by decide))), ((upd_no (by decide)).trans (dd13.trans (by decide)))⟩, ⟨(fun h => absurd h (by decide)), (fun h => absurd h (by decide)), (fun _ => ?new), (fun h => absurd h (by decide)), (fun h => absurd h (by decide))⟩⟩
      case sg => exact G5.box
      case new =>
        exact ⟨ea, rfl, G5⟩
    · rintro d ⟨x27, x28, x29, x30, x31, x32, x33, x34, x35, x36, x37, x38, x39, x8⟩ w' hI hd hdp KQ hK
      dsimp only at hI
      obtain ⟨hS, ⟨f0, f1, f2, f3, f4, f6, f7, f8, f9, f10⟩, j, hj, ⟨dd5, dd11, dd12, dd13⟩, ⟨p0, p1, p2, p3, p4⟩⟩ := hI
      obtain rfl := ph_eq (k := 1) dd12 hd dd11 (hdp 11 (by decide +kernel))
      have s := p2 rfl
      clear p0 p1 p2 p3 p4 hj
      obtain ⟨ea, eb, s⟩ := s
      subst ea
      subst eb
      have HG : Hid _ := And.intro hS s
      clear hS s
      have HF : Hid _ := And.intro (And.intro f0 (And.intro f1 (And.intro f2 (And.intro f3 (And.intro f4 (And.intro f6 (And.intro f7 (And.intro f8 (And.intro f9 f10))))))))) (And.intro dd5 (And.intro dd11 (And.intro dd12 dd13)))
      clear f0 f1 f2 f3 f4 f6 f7 f8 f9 f10 dd5 dd11 dd12 dd13 hdp hd
      refine Opn.mk ?_
      dsimp only
      go_simp
      obtain ⟨hS, s⟩ := HG.out
      obtain ⟨⟨f0, f1, f2, f3, f4, f6, f7, f8, f9, f10⟩, ⟨dd5, dd11, dd12, dd13⟩⟩ := HF.out
      refine hK.out (x27, x28, x29, x30, x31, .int .i64 (c : Int), x33, x34, x35, x36, x37, .int .i64 (c : Int), .bool true, x8) _ ⟨?sg, ⟨(fun h => f0 (upd_ne h (by decide))), (fun h => f1 (upd_ne h (by decide))), (fun h => f2 (upd_ne h (by decide))), (fun h => f3 (upd_ne h (by decide))), (fun h => f4 (upd_ne h (by decide))), (fun h => f6 (upd_ne h (by decide))), (fun h => f7 (upd_ne h (by decide))), (fun h => f8 (upd_ne h (by decide))), (fun h => f9 (upd_ne h (by decide))), (fun h => f10 (upd_ne h (by decide)))⟩, 3, by decide, ⟨((upd_no (by decide)).trans (dd5.trans (by decide))), ((upd_no (by decide)).trans (dd11.trans (by decide))), (by simp [upd]), ((upd_no (by decide)).trans (dd13.trans (by decide)))⟩, ⟨(fun h => absurd h (by decide)), (fun h => absurd h (by decide)), (fun h => absurd h (by decide)), (fun _ => ?new), (fun h => absurd h (by decide))⟩⟩
      case sg => exact hS
      case new =>
        exact ⟨rfl, s⟩
    · rintro d ⟨x27, x28, x29, x30, x31, x32, x33, x34, x35, x36, x37, x38, x39, x8⟩ w' hI hd hdp KQ hK
      dsimp only at hI
      obtain ⟨hS, ⟨f0, f1, f2, f3, f4, f6, f7, f8, f9, f10⟩, j, hj, ⟨dd5, dd11, dd12, dd13⟩, ⟨p0, p1, p2, p3, p4⟩⟩ := hI
      obtain rfl := ph_eq (k := 2) dd13 hd dd12 (hdp 12 (by decide +kernel))
      have s := p3 rfl
      clear p0 p1 p2 p3 p4 hj
      obtain ⟨ea, s⟩ := s
      subst ea
      have HG : Hid _ := And.intro hS s
      clear hS s
      have HF : Hid _ := And.intro (And.intro f0 (And.intro f1 (And.intro f2 (And.intro f3 (And.intro f4 (And.intro f6 (And.intro f7 (And.intro f8 (And.intro f9 f10))))))))) (And.intro dd5 (And.intro dd11 (And.intro dd12 dd13)))
      clear f0 f1 f2 f3 f4 f6 f7 f8 f9 f10 dd5 dd11 dd12 dd13 hdp hd
      refine Opn.mk ?_
      dsimp only
      go_simp
      obtain ⟨hS, s⟩ := HG.out
      obtain ⟨⟨f0, f1, f2, f3, f4, f6, f7, f8, f9, f10⟩, ⟨dd5, dd11, dd12, dd13⟩⟩ := HF.out
      refine hK.out (x27, x28, x29, x30, x31, x32, x33, x34, x35, x36, x37, x38, .bool true, .bool true) _ ⟨?sg, ⟨(fun h => f0 (upd_ne h (by decide))), (fun h => f1 (upd_ne h (by decide))), (fun h => f2 (upd_ne h (by decide))), (fun h => f3 (upd_ne h (by decide))), (fun h => f4 (upd_ne h (by decide))), (fun h => f6 (upd_ne h (by decide))), (fun h => f7 (upd_ne h (by decide))), (fun h => f8 (upd_ne h (by decide))), (fun h => f9 (upd_ne h (by decide))), (fun h => f10 (upd_ne h (by decide)))⟩, 4, by decide, ⟨((upd_no (by decide)).trans (dd5.trans (by decide))), ((upd_no (by decide)).trans (dd11.trans (by decide))), ((upd_no (by decide)).trans (dd12.trans (by decide))), (by simp [upd])⟩, ⟨(fun h => absurd h (by decide)), (fun h => absurd h (by decide)), (fun h => absurd h (by decide)), (fun h => absurd h (by decide)), (fun _ => ?new)⟩⟩
      case sg => exact hS
      case new =>
        exact ⟨rfl, s⟩
  case he27 =>
    rintro d ⟨x27, x28, x29, x30, x31, x32, x33, x34, x35, x36, x37, x38, x39, x8⟩ w' hall hI
    dsimp only at hI
    obtain ⟨hS, ⟨f0, f1, f2, f3, f4, f6, f7, f8, f9, f10⟩, j, hj, ⟨dd5, dd11, dd12, dd13⟩, ⟨p0, p1, p2, p3, p4⟩⟩ := hI
    obtain rfl := ph_end (k := 3) hj dd13 (hall 13 (by decide))
    have s := p4 rfl
    clear hall hj f0 f1 f2 f3 f4 f6 f7 f8 f9 f10 dd5 dd11 dd12 dd13 p0 p1 p2 p3 p4
    obtain ⟨ea, s⟩ := s
    subst ea
    have HG : Hid _ := s
    clear hS s
    dsimp only
    go_wp2_with fail
    go_ret
    exact ⟨rfl, ⟨_, _, Ps.qp (t0 := tr) HG.out (HNN.out.2.2.2.2.1) (HR.out.putB A bs).2 (rputB_pt tr A bs).2 HB.out.1 (by rw [(rputB_pt tr A bs).1]; exact HB.out.2.1) (nms_putB HM.out A bs)⟩⟩
set_option maxRecDepth 100000 in
set_option maxHeartbeats 3200000 in
theorem both_2 (w0 w : World) (sp dp rp m : Nat) (sd : St) (tr : RSt) (K n : Int) (A : Str) (ua : Option Addr) (uc : Nat) (bs : Str) (h : Qp w0 w sp dp rp m sd tr) (hm : m < 100) (ok : OpM.Ok w0 1048576 ⟨K, A, .slice ua bs.length uc, bs, n⟩) (hk : absN K % 13 = 2) :
    Calls Try.prog 13 #[.pointer (some ⟨sp, 0, none⟩), .pointer (some ⟨dp, 0, none⟩), .pointer (some ⟨rp, 0, none⟩), .agg #[.int .i64 K, .string ⟨A.toArray⟩, .slice ua bs.length uc, .int .i64 n]] w fun e w' => e = .returned (.bool true) ∧ Bth w0 w' sp dp rp m := by
  have mixed : Try.prog.follows .mixedOrders = true := by kernel_rfl
  obtain ⟨W, hW⟩ : ∃ W, W = w.alloc (.cells #[.int .i64 K, .string ⟨A.toArray⟩, .slice ua bs.length uc, .int .i64 n] 35) := ⟨_, rfl⟩
  have hq := h.box hW
  have kAb := abs_any W K ok.k1 ok.k2
  have hab : (absN K : Int) % 13 = 2 := by omega
  have HR : Hid (Rel sd tr) := h.rel
  have HRX : Hid (∃ s, Rel s tr) := ⟨_, h.rel⟩
  have HM : Hid (NmS sd) := h.nm
  have HB : Hid (tr.n ≤ m * 1004 ∧ tr.part ≤ 9223372036854775807 ∧ m < 100) := ⟨h.n, h.part, hm⟩
  have HW : Hid (W = w.alloc (.cells #[.int .i64 K, .string ⟨A.toArray⟩, .slice ua bs.length uc, .int .i64 n] 35)) := hW
  have hA : A.length ≤ 1048576 := ok.a
  have HOK : Hid (OpM.Ok w0 1048576 ⟨K, A, .slice ua bs.length uc, bs, n⟩) := ok
  have hl : bs.length ≤ 1048576 := ok.rl
  have hop : sd.ops < 990000 := by have := h.n; have := h.rel.n; omega
  have hopt : tr.n < 990000 := by have := h.n; omega
  have HQ : Hid (Ps w0 W sp dp rp (m * 4194304) sd tr w.heap.size 35 #[.int .i64 K, .string ⟨A.toArray⟩, .slice ua bs.length uc, .int .i64 n]) := hq
  obtain ⟨bx, hbx⟩ : ∃ b, b = w.heap.size := ⟨_, rfl⟩
  rw [← hbx] at HQ
  have HN : Hid (A.length ≤ 2000000 ∧ sd.ops < 990000 ∧ tr.n < 990000 ∧ tr.part ≤ 9223372036854775807 ∧ Srt tr.fs ∧ sd.ops < 999000 ∧ tr.n < 999000 ∧ sd.ops < 1000000 ∧ tr.n < 1000000) := ⟨by omega, hop, hopt, h.part, h.rel.sp.srt, by omega, by omega, by omega, by omega⟩
  have HNN : Hid (m * 4194304 ≤ 140737488355328 ∧ m * 4194304 ≤ (m + 1) * 4194304 ∧ m * 4194304 + 1048584 ≤ 140737488355328 ∧ m * 4194304 + 1048584 + 1048584 ≤ 140737488355328 ∧ m * 4194304 + 1048584 + 1048584 ≤ (m + 1) * 4194304 ∧ m * 4194304 + bs.length ≤ 140737488355328 ∧ m * 4194304 + bs.length + bs.length ≤ 140737488355328 ∧ m * 4194304 + bs.length + bs.length ≤ (m + 1) * 4194304) := by apply hide; omega
  have c0 := HQ.out.box.cell 0 _ rfl
  clear hq h ok hW hm hA hl hop hopt hk
  go_enter Try.func13, Try.ntmps13
  go_wp2_with fail
  rw [← HW.out]
  go_wp2_with fail
  refine kAb.mono ?_
  rintro e wq ⟨rfl, rfl⟩
  clear kAb
  go_upto_region 6 with fail
  rw [← hbx]
  try rw [hab]
  clear hbx hab
  clear c0
  obtain ⟨c, hc⟩ : ∃ c, c = (bput sd A bs).1 := ⟨_, rfl⟩
  have HC1 : Hid ((bput sd A bs).1 = c) := hc.symm
  have HC2 : Hid ((rputB tr A bs).1 = c) := by apply hide; rw [hc]; exact (HR.out.putB A bs).1.symm
  have hSig0 : BxA wq.drew bx 35 #[.int .i64 K, .string ⟨A.toArray⟩, .slice ua bs.length uc, .int .i64 n] := HQ.out.box
  have hS00 : Ps w0 wq.drew sp dp rp (m * 4194304) sd tr bx 35 #[.int .i64 K, .string ⟨A.toArray⟩, .slice ua bs.length uc, .int .i64 n] := ps_drew HQ.out
  clear hc
  refine wp_region_invF (β := Value × Value × Value × Value × Value × Value × Value × Value × Value × Value × Value × Value × Value × Value) (fun a0 xq => ((((((((((((((a0.put (some 27) (xq.1)).put (some 28) (xq.2.1)).put (some 29) (xq.2.2.1)).put (some 30) (xq.2.2.2.1)).put (some 31) (xq.2.2.2.2.1)).put (some 32) (xq.2.2.2.2.2.1)).put (some 33) (xq.2.2.2.2.2.2.1)).put (some 34) (xq.2.2.2.2.2.2.2.1)).put (some 35) (xq.2.2.2.2.2.2.2.2.1)).put (some 36) (xq.2.2.2.2.2.2.2.2.2.1)).put (some 37) (xq.2.2.2.2.2.2.2.2.2.2.1)).put (some 38) (xq.2.2.2.2.2.2.2.2.2.2.2.1)).put (some 39) (xq.2.2.2.2.2.2.2.2.2.2.2.2.1)).put (some 8) (xq.2.2.2.2.2.2.2.2.2.2.2.2.2))) ?fr27 (fun xq d w' => (BxA w' bx 35 #[.int .i64 K, .string ⟨A.toArray⟩, .slice ua bs.length uc, .int .i64 n]) ∧ ((d 0 = true → (xq.1) = .pointer (some ⟨sp, 0, none⟩)) ∧ (d 1 = true → (xq.2.1) = .pointer (some ⟨bx, 1, none⟩)) ∧ (d 2 = true → (xq.2.2.1) = .string ⟨A.toArray⟩) ∧ (d 3 = true → (xq.2.2.2.1) = .pointer (some ⟨bx, 2, none⟩)) ∧ (d 4 = true → (xq.2.2.2.2.1) = .slice ua bs.length uc) ∧ (d 6 = true → (xq.2.2.2.2.2.2.1) = .pointer (some ⟨rp, 0, none⟩)) ∧ (d 7 = true → (xq.2.2.2.2.2.2.2.1) = .pointer (some ⟨bx, 1, none⟩)) ∧ (d 8 = true → (xq.2.2.2.2.2.2.2.2.1) = .string ⟨A.toArray⟩) ∧ (d 9 = true → (xq.2.2.2.2.2.2.2.2.2.1) = .pointer (some ⟨bx, 2, none⟩)) ∧ (d 10 = true → (xq.2.2.2.2.2.2.2.2.2.2.1) = .slice ua bs.length uc)) ∧ ∃ j : Nat, j ≤ 4 ∧ (d 5 = decide (0 < j) ∧ d 11 = decide (1 < j) ∧ d 12 = decide (2 < j) ∧ d 13 = decide (3 < j)) ∧ ((j = 0 → Ps w0 w' sp dp rp (m * 4194304) (sd) (tr) bx 35 #[.int .i64 K, .string ⟨A.toArray⟩, .slice ua bs.length uc, .int .i64 n]) ∧ (j = 1 → (xq.2.2.2.2.2.1) = .int .i64 (c : Int) ∧ Ps w0 w' sp dp rp (m * 4194304 + 1048584) ((bput sd A bs).2) (tr) bx 35 #[.int .i64 K, .string ⟨A.toArray⟩, .slice ua bs.length uc, .int .i64 n]) ∧ (j = 2 → (xq.2.2.2.2.2.1) = .int .i64 (c : Int) ∧ (xq.2.2.2.2.2.2.2.2.2.2.2.1) = .int .i64 (c : Int) ∧ Ps w0 w' sp dp rp (m * 4194304 + 1048584 + 1048584) ((bput sd A bs).2) ((rputB tr A bs).2) bx 35 #[.int .i64 K, .string ⟨A.toArray⟩, .slice ua bs.length uc, .int .i64 n]) ∧ (j = 3 → (xq.2.2.2.2.2.2.2.2.2.2.2.2.1) = .bool true ∧ Ps w0 w' sp dp rp (m * 4194304 + 1048584 + 1048584) ((bput sd A bs).2) ((rputB tr A bs).2) bx 35 #[.int .i64 K, .string ⟨A.toArray⟩, .slice ua bs.length uc, .int .i64 n]) ∧ (j = 4 → (xq.2.2.2.2.2.2.2.2.2.2.2.2.2) = .bool true ∧ Ps w0 w' sp dp rp (m * 4194304 + 1048584 + 1048584) ((bput sd A bs).2) ((rputB tr A bs).2) bx 35 #[.int .i64 K, .string ⟨A.toArray⟩, .slice ua bs.length uc, .int .i64 n]))) ?lay27 mixed (by kernel_rfl) ?h027 ?hs27 ?he27
  case lay27 =>
    intro xq
    simp only [Act.put, List.setIfInBounds_toArray, List.set_cons_zero, List.set_cons_succ]
    rfl
  case h027 =>
    refine ⟨(undef, undef, undef, undef, undef, undef, undef, undef, undef, undef, undef, undef, undef, .bool false), rfl, ?sig27, ⟨(fun h => by cases h), (fun h => by cases h), (fun h => by cases h), (fun h => by cases h), (fun h => by cases h), (fun h => by cases h), (fun h => by cases h), (fun h => by cases h), (fun h => by cases h), (fun h => by cases h)⟩, 0, Nat.zero_le _, ⟨rfl, rfl, rfl, rfl⟩, ?S027, (fun h => by cases h), (fun h => by cases h), (fun h => by cases h), (fun h => by cases h)⟩
    case sig27 => exact hSig0
    case S027 => exact fun _ => hS00
  case hs27 =>
    refine ⟨?_, ?_, ?_, ?_, ?_, ?_, ?_, ?_, ?_, ?_, ?_, ?_, ?_, ?_, trivial⟩
    · rintro d ⟨x27, x28, x29, x30, x31, x32, x33, x34, x35, x36, x37, x38, x39, x8⟩ w' hI hd hdp KQ hK
      dsimp only at hI
      obtain ⟨hS, ⟨f0, f1, f2, f3, f4, f6, f7, f8, f9, f10⟩, j, hj, ⟨dd5, dd11, dd12, dd13⟩, ⟨p0, p1, p2, p3, p4⟩⟩ := hI
      have HF : Hid _ := And.intro hS (And.intro (And.intro f0 (And.intro f1 (And.intro f2 (And.intro f3 (And.intro f4 (And.intro f6 (And.intro f7 (And.intro f8 (And.intro f9 f10))))))))) (And.intro hj (And.intro (And.intro dd5 (And.intro dd11 (And.intro dd12 dd13))) (And.intro p0 (And.intro p1 (And.intro p2 (And.intro p3 p4)))))))
      clear hS f0 f1 f2 f3 f4 f6 f7 f8 f9 f10 hj dd5 dd11 dd12 dd13 p0 p1 p2 p3 p4 hdp hd
      refine Opn.mk ?_
      dsimp only
      go_simp
      obtain ⟨hS, ⟨f0, f1, f2, f3, f4, f6, f7, f8, f9, f10⟩, hj, ⟨dd5, dd11, dd12, dd13⟩, ⟨p0, p1, p2, p3, p4⟩⟩ := HF.out
      exact hK.out (.pointer (some ⟨sp, 0, none⟩), x28, x29, x30, x31, x32, x33, x34, x35, x36, x37, x38, x39, x8) _ ⟨hS, ⟨(fun _ => rfl), (fun h => f1 (upd_ne h (by decide))), (fun h => f2 (upd_ne h (by decide))), (fun h => f3 (upd_ne h (by decide))), (fun h => f4 (upd_ne h (by decide))), (fun h => f6 (upd_ne h (by decide))), (fun h => f7 (upd_ne h (by decide))), (fun h => f8 (upd_ne h (by decide))), (fun h => f9 (upd_ne h (by decide))), (fun h => f10 (upd_ne h (by decide)))⟩, j, hj, ⟨((upd_no (by decide)).trans dd5), ((upd_no (by decide)).trans dd11), ((upd_no (by decide)).trans dd12), ((upd_no (by decide)).trans dd13)⟩, ⟨p0, p1, p2, p3, p4⟩⟩
    · rintro d ⟨x27, x28, x29, x30, x31, x32, x33, x34, x35, x36, x37, x38, x39, x8⟩ w' hI hd hdp KQ hK
      dsimp only at hI
      obtain ⟨hS, ⟨f0, f1, f2, f3, f4, f6, f7, f8, f9, f10⟩, j, hj, ⟨dd5, dd11, dd12, dd13⟩, ⟨p0, p1, p2, p3, p4⟩⟩ := hI
      have HF : Hid _ := And.intro hS (And.intro (And.intro f0 (And.intro f1 (And.intro f2 (And.intro f3 (And.intro f4 (And.intro f6 (And.intro f7 (And.intro f8 (And.intro f9 f10))))))))) (And.intro hj (And.intro (And.intro dd5 (And.intro dd11 (And.intro dd12 dd13))) (And.intro p0 (And.intro p1 (And.intro p2 (And.intro p3 p4)))))))
      clear hS f0 f1 f2 f3 f4 f6 f7 f8 f9 f10 hj dd5 dd11 dd12 dd13 p0 p1 p2 p3 p4 hdp hd
      refine Opn.mk ?_
      dsimp only
      go_simp
      obtain ⟨hS, ⟨f0, f1, f2, f3, f4, f6, f7, f8, f9, f10⟩, hj, ⟨dd5, dd11, dd12, dd13⟩, ⟨p0, p1, p2, p3, p4⟩⟩ := HF.out
      exact hK.out (x27, .pointer (some ⟨bx, 1, none⟩), x29, x30, x31, x32, x33, x34, x35, x36, x37, x38, x39, x8) _ ⟨hS, ⟨(fun h => f0 (upd_ne h (by decide))), (fun _ => rfl), (fun h => f2 (upd_ne h (by decide))), (fun h => f3 (upd_ne h (by decide))), (fun h => f4 (upd_ne h (by decide))), (fun h => f6 (upd_ne h (by decide))), (fun h => f7 (upd_ne h (by decide))), (fun h => f8 (upd_ne h (by decide))), (fun h => f9 (upd_ne h (by decide))), (fun h => f10 (upd_ne h (by decide)))⟩, j, hj, ⟨((upd_no (by decide)).trans dd5), ((upd_no (by decide)).trans dd11), ((upd_no (by decide)).trans dd12), ((upd_no (by decide)).trans dd13)⟩, ⟨p0, p1, p2, p3, p4⟩⟩
    · rintro d ⟨x27, x28, x29, x30, x31, x32, x33, x34, x35, x36, x37, x38, x39, x8⟩ w' hI hd hdp KQ hK
      dsimp only at hI
      obtain ⟨hS, ⟨f0, f1, f2, f3, f4, f6, f7, f8, f9, f10⟩, j, hj, ⟨dd5, dd11, dd12, dd13⟩, ⟨p0, p1, p2, p3, p4⟩⟩ := hI
      obtain rfl := f1 (hdp 1 (by decide +kernel))
      have cc : w'.cell? ⟨bx, 1, none⟩ = some (.string ⟨A.toArray⟩) := BxA.cell hS 1 _ rfl
      have HF : Hid _ := And.intro hS (And.intro (And.intro f0 (And.intro f1 (And.intro f2 (And.intro f3 (And.intro f4 (And.intro f6 (And.intro f7 (And.intro f8 (And.intro f9 f10))))))))) (And.intro hj (And.intro (And.intro dd5 (And.intro dd11 (And.intro dd12 dd13))) (And.intro p0 (And.intro p1 (And.intro p2 (And.intro p3 p4)))))))
      clear hS f0 f1 f2 f3 f4 f6 f7 f8 f9 f10 hj dd5 dd11 dd12 dd13 p0 p1 p2 p3 p4 hdp hd
      refine Opn.mk ?_
      dsimp only
      go_simp
      obtain ⟨hS, ⟨f0, f1, f2, f3, f4, f6, f7, f8, f9, f10⟩, hj, ⟨dd5, dd11, dd12, dd13⟩, ⟨p0, p1, p2, p3, p4⟩⟩ := HF.out
      exact hK.out (x27, .pointer (some ⟨bx, 1, none⟩), .string ⟨A.toArray⟩, x30, x31, x32, x33, x34, x35, x36, x37, x38, x39, x8) _ ⟨hS, ⟨(fun h => f0 (upd_ne h (by decide))), (fun _ => rfl), (fun _ => rfl), (fun h => f3 (upd_ne h (by decide))), (fun h => f4 (upd_ne h (by decide))), (fun h => f6 (upd_ne h (by decide))), (fun h => f7 (upd_ne h (by decide))), (fun h => f8 (upd_ne h (by decide))), (fun h => f9 (upd_ne h (by decide))), (fun h => f10 (upd_ne h (by decide)))⟩, j, hj, ⟨((upd_no (by decide)).trans dd5), ((upd_no (by decide)).trans dd11), ((upd_no (by decide)).trans dd12), ((upd_no (by decide)).trans dd13)⟩, ⟨p0, p1, p2, p3, p4⟩⟩
    · rintro d ⟨x27, x28, x29, x30, x31, x32, x33, x34, x35, x36, x37, x38, x39, x8⟩ w' hI hd hdp KQ hK
      dsimp only at hI
      obtain ⟨hS, ⟨f0, f1, f2, f3, f4, f6, f7, f8, f9, f10⟩, j, hj, ⟨dd5, dd11, dd12, dd13⟩, ⟨p0, p1, p2, p3, p4⟩⟩ := hI
      have HF : Hid _ := And.intro hS (And.intro (And.intro f0 (And.intro f1 (And.intro f2 (And.intro f3 (And.intro f4 (And.intro f6 (And.intro f7 (And.intro f8 (And.intro f9 f10))))))))) (And.intro hj (And.intro (And.intro dd5 (And.intro dd11 (And.intro dd12 dd13))) (And.intro p0 (And.intro p1 (And.intro p2 (And.intro p3 p4)))))))
      clear hS f0 f1 f2 f3 f4 f6 f7 f8 f9 f10 hj dd5 dd11 dd12 dd13 p0 p1 p2 p3 p4 hdp hd
      refine Opn.mk ?_
      dsimp only
      go_simp
      obtain ⟨hS, ⟨f0, f1, f2, f3, f4, f6, f7, f8, f9, f10⟩, hj, ⟨dd5, dd11, dd12, dd13⟩, ⟨p0, p1, p2, p3, p4⟩⟩ := HF.out
      exact hK.out (x27, x28, x29, .pointer (some ⟨bx, 2, none⟩), x31, x32, x33, x34, x35, x36, x37, x38, x39, x8) _ ⟨hS, ⟨(fun h => f0 (upd_ne h (by decide))), (fun h => f1 (upd_ne h (by decide))), (fun h => f2 (upd_ne h (by decide))), (fun _ => rfl), (fun h => f4 (upd_ne h (by decide))), (fun h => f6 (upd_ne h (by decide))), (fun h => f7 (upd_ne h (by decide))), (fun h => f8 (upd_ne h (by decide))), (fun h => f9 (upd_ne h (by decide))), (fun h => f10 (upd_ne h (by decide)))⟩, j, hj, ⟨((upd_no (by decide)).trans dd5), ((upd_no (by decide)).trans dd11), ((upd_no (by decide)).trans dd12), ((upd_no (by decide)).trans dd13)⟩, ⟨p0, p1, p2, p3, p4⟩⟩
    · rintro d ⟨x27, x28, x29, x30, x31, x32, x33, x34, x35, x36, x37, x38, x39, x8⟩ w' hI hd hdp KQ hK
      dsimp only at hI
      obtain ⟨hS, ⟨f0, f1, f2, f3, f4, f6, f7, f8, f9, f10⟩, j, hj, ⟨dd5, dd11, dd12, dd13⟩, ⟨p0, p1, p2, p3, p4⟩⟩ := hI
      obtain rfl := f3 (hdp 3 (by decide +kernel))
      have cc : w'.cell? ⟨bx, 2, none⟩ = some (.slice ua bs.length uc) := BxA.cell hS 2 _ rfl
      have HF : Hid _ := And.intro hS (And.intro (And.intro f0 (And.intro f1 (And.intro f2 (And.intro f3 (And.intro f4 (And.intro f6 (And.intro f7 (And.intro f8 (And.intro f9 f10))))))))) (And.intro hj (And.intro (And.intro dd5 (And.intro dd11 (And.intro dd12 dd13))) (And.intro p0 (And.intro p1 (And.intro p2 (And.intro p3 p4)))))))
      clear hS f0 f1 f2 f3 f4 f6 f7 f8 f9 f10 hj dd5 dd11 dd12 dd13 p0 p1 p2 p3 p4 hdp hd
      refine Opn.mk ?_
      dsimp only
      go_simp
      obtain ⟨hS, ⟨f0, f1, f2, f3, f4, f6, f7, f8, f9, f10⟩, hj, ⟨dd5, dd11, dd12, dd13⟩, ⟨p0, p1, p2, p3, p4⟩⟩ := HF.out
      exact hK.out (x27, x28, x29, .pointer (some ⟨bx, 2, none⟩), .slice ua bs.length uc, x32, x33, x34, x35, x36, x37, x38, x39, x8) _ ⟨hS, ⟨(fun h => f0 (upd_ne h (by decide))), (fun h => f1 (upd_ne h (by decide))), (fun h => f2 (upd_ne h (by decide))), (fun _ => rfl), (fun _ => rfl), (fun h => f6 (upd_ne h (by decide))), (fun h => f7 (upd_ne h (by decide))), (fun h => f8 (upd_ne h (by decide))), (fun h => f9 (upd_ne h (by decide))), (fun h => f10 (upd_ne h (by decide)))⟩, j, hj, ⟨((upd_no (by decide)).trans dd5), ((upd_no (by decide)).trans dd11), ((upd_no (by decide)).trans dd12), ((upd_no (by decide)).trans dd13)⟩, ⟨p0, p1, p2, p3, p4⟩⟩
    · rintro d ⟨x27, x28, x29, x30, x31, x32, x33, x34, x35, x36, x37, x38, x39, x8⟩ w' hI hd hdp KQ hK
      dsimp only at hI
      obtain ⟨hS, ⟨f0, f1, f2, f3, f4, f6, f7, f8, f9, f10⟩, j, hj, ⟨dd5, dd11, dd12, dd13⟩, ⟨p0, p1, p2, p3, p4⟩⟩ := hI
      obtain rfl := f0 (hdp 0 (by decide +kernel))
      obtain rfl := f2 (hdp 2 (by decide +kernel))
      obtain rfl := f4 (hdp 4 (by decide +kernel))
      obtain rfl := ph_zero dd5 hd
      have s := p0 rfl
      clear p0 p1 p2 p3 p4 hj
      have kk := ps_put s A (.slice ua bs.length uc) bs HN.out.1 HOK.out.r HNN.out.2.2.1 HN.out.2.2.2.2.2.1
      rw [HC1.out] at kk
      have HG : Hid _ := And.intro hS s
      clear hS s
      have HF : Hid _ := And.intro (And.intro f0 (And.intro f1 (And.intro f2 (And.intro f3 (And.intro f4 (And.intro f6 (And.intro f7 (And.intro f8 (And.intro f9 f10))))))))) (And.intro dd5 (And.intro dd11 (And.intro dd12 dd13)))
      clear f0 f1 f2 f3 f4 f6 f7 f8 f9 f10 dd5 dd11 dd12 dd13 hdp hd
      refine Opn.mk ?_
      dsimp only
      go_simp
      go_wp2_with (first | (go_at_call 19; with_reducible refine kk.mono ?_; rintro e5 w5 ⟨rfl, G5⟩))
      obtain ⟨hS, s⟩ := HG.out
      obtain ⟨⟨f0, f1, f2, f3, f4, f6, f7, f8, f9, f10⟩, ⟨dd5, dd11, dd12, dd13⟩⟩ := HF.out
      refine hK.out (.pointer (some ⟨sp, 0, none⟩), x28, .string ⟨A.toArray⟩, x30, .slice ua bs.length uc, .int .i64 (c : Int), x33, x34, x35, x36, x37, x38, x39, x8) _ ⟨?sg, ⟨(fun _ => rfl), (fun h => f1 (upd_ne h (by decide))), (fun _ => rfl), (fun h => f3 (upd_ne h (by decide))), (fun _ => rfl), (fun h => f6 (upd_ne h (by decide))), (fun h => f7 (upd_ne h (by decide))), (fun h => f8 (upd_ne h (by decide))), (fun h => f9 (upd_ne h (by decide))), (fun h => f10 (upd_ne h (by decide)))⟩, 1, by decide, ⟨(by simp [upd]), ((upd_no (by decide)).trans (dd11.trans (by decide))), ((upd_no (by decide)).trans (dd12.trans (by decide))), ((upd_no (by decide)).trans (dd13.trans (by decide)))⟩, ⟨(fun h => absurd h (by decide)), (fun _ => ?new), (fun h => absurd h (by decide)), (fun h => absurd h (by decide)), (fun h => absurd h (by decide))⟩⟩
      case sg => exact G5.box
      case new =>
        exact ⟨rfl, G5⟩
    · rintro d ⟨x27, x28, x29, x30, x31, x32, x33, x34, x35, x36, x37, x38, x39, x8⟩ w' hI hd hdp KQ hK
      dsimp only at hI
      obtain ⟨hS, ⟨f0, f1, f2, f3, f4, f6, f7, f8, f9, f10⟩, j, hj, ⟨dd5, dd11, dd12, dd13⟩, ⟨p0, p1, p2, p3, p4⟩⟩ := hI
      have HF : Hid _ := And.intro hS (And.intro (And.intro f0 (And.intro f1 (And.intro f2 (And.intro f3 (And.intro f4 (And.intro f6 (And.intro f7 (And.intro f8 (And.intro f9 f10))))))))) (And.intro hj (And.intro (And.intro dd5 (And.intro dd11 (And.intro dd12 dd13))) (And.intro p0 (And.intro p1 (And.intro p2 (And.intro p3 p4)))))))
      clear hS f0 f1 f2 f3 f4 f6 f7 f8 f9 f10 hj dd5 dd11 dd12 dd13 p0 p1 p2 p3 p4 hdp hd
      refine Opn.mk ?_
      dsimp only
      go_simp
      obtain ⟨hS, ⟨f0, f1, f2, f3, f4, f6, f7, f8, f9, f10⟩, hj, ⟨dd5, dd11, dd12, dd13⟩, ⟨p0, p1, p2, p3, p4⟩⟩ := HF.out
      exact hK.out (x27, x28, x29, x30, x31, x32, .pointer (some ⟨rp, 0, none⟩), x34, x35, x36, x37, x38, x39, x8) _ ⟨hS, ⟨(fun h => f0 (upd_ne h (by decide))), (fun h => f1 (upd_ne h (by decide))), (fun h => f2 (upd_ne h (by decide))), (fun h => f3 (upd_ne h (by decide))), (fun h => f4 (upd_ne h (by decide))), (fun _ => rfl), (fun h => f7 (upd_ne h (by decide))), (fun h => f8 (upd_ne h (by decide))), (fun h => f9 (upd_ne h (by decide))), (fun h => f10 (upd_ne h (by decide)))⟩, j, hj, ⟨((upd_no (by decide)).trans dd5), ((upd_no (by decide)).trans dd11), ((upd_no (by decide)).trans dd12), ((upd_no (by decide)).trans dd13)⟩, ⟨p0, p1, p2, p3, p4⟩⟩
    · rintro d ⟨x27, x28, x29, x30, x31, x32, x33, x34, x35, x36, x37, x38, x39, x8⟩ w' hI hd hdp KQ hK
      dsimp only at hI
      obtain ⟨hS, ⟨f0, f1, f2, f3, f4, f6, f7, f8, f9, f10⟩, j, hj, ⟨dd5, dd11, dd12, dd13⟩, ⟨p0, p1, p2, p3, p4⟩⟩ := hI
      have HF : Hid _ := And.intro hS (And.intro (And.intro f0 (And.intro f1 (And.intro f2 (And.intro f3 (And.intro f4 (And.intro f6 (And.intro f7 (And.intro f8 (And.intro f9 f10))))))))) (And.intro hj (And.intro (And.intro dd5 (And.intro dd11 (And.intro dd12 dd13))) (And.intro p0 (And.intro p1 (And.intro p2 (And.intro p3 p4)))))))
      clear hS f0 f1 f2 f3 f4 f6 f7 f8 f9 f10 hj dd5 dd11 dd12 dd13 p0 p1 p2 p3 p4 hdp hd
      refine Opn.mk ?_
      dsimp only
      go_simp
      obtain ⟨hS, ⟨f0, f1, f2, f3, f4, f6, f7, f8, f9, f10⟩, hj, ⟨dd5, dd11, dd12, dd13⟩, ⟨p0, p1, p2, p3, p4⟩⟩ := HF.out
      exact hK.out (x27, x28, x29, x30, x31, x32, x33, .pointer (some ⟨bx, 1, none⟩), x35, x36, x37, x38, x39, x8) _ ⟨hS, ⟨(fun h => f0 (upd_ne h (by decide))), (fun h => f1 (upd_ne h (by decide))), (fun h => f2 (upd_ne h (by decide))), (fun h => f3 (upd_ne h (by decide))), (fun h => f4 (upd_ne h (by decide))), (fun h => f6 (upd_ne h (by decide))), (fun _ => rfl), (fun h => f8 (upd_ne h (by decide))), (fun h => f9 (upd_ne h (by decide))), (fun h => f10 (upd_ne h (by decide)))⟩, j, hj, ⟨((upd_no (by decide)).trans dd5), ((upd_no (by decide)).trans dd11), ((upd_no (by decide)).trans dd12), ((upd_no (by decide)).trans dd13)⟩, ⟨p0, p1, p2, p3, p4⟩⟩
    · rintro d ⟨x27, x28, x29, x30, x31, x32, x33, x34, x35, x36, x37, x38, x39, x8⟩ w' hI hd hdp KQ hK
      dsimp only at hI
      obtain ⟨hS, ⟨f0, f1, f2, f3, f4, f6, f7, f8, f9, f10⟩, j, hj, ⟨dd5, dd11, dd12, dd13⟩, ⟨p0, p1, p2, p3, p4⟩⟩ := hI
      obtain rfl := f7 (hdp 7 (by decide +kernel))
      have cc : w'.cell? ⟨bx, 1, none⟩ = some (.string ⟨A.toArray⟩) := BxA.cell hS 1 _ rfl
      have HF : Hid _ := And.intro hS (And.intro (And.intro f0 (And.intro f1 (And.intro f2 (And.intro f3 (And.intro f4 (And.intro f6 (And.intro f7 (And.intro f8 (And.intro f9 f10))))))))) (And.intro hj (And.intro (And.intro dd5 (And.intro dd11 (And.intro dd12 dd13))) (And.intro p0 (And.intro p1 (And.intro p2 (And.intro p3 p4)))))))
      clear hS f0 f1 f2 f3 f4 f6 f7 f8 f9 f10 hj dd5 dd11 dd12 dd13 p0 p1 p2 p3 p4 hdp hd
      refine Opn.mk ?_
      dsimp only
      go_simp
      obtain ⟨hS, ⟨f0, f1, f2, f3, f4, f6, f7, f8, f9, f10⟩, hj, ⟨dd5, dd11, dd12, dd13⟩, ⟨p0, p1, p2, p3, p4⟩⟩ := HF.out
      exact hK.out (x27, x28, x29, x30, x31, x32, x33, .pointer (some ⟨bx, 1, none⟩), .string ⟨A.toArray⟩, x36, x37, x38, x39, x8) _ ⟨hS, ⟨(fun h => f0 (upd_ne h (by decide))), (fun h => f1 (upd_ne h (by decide))), (fun h => f2 (upd_ne h (by decide))), (fun h => f3 (upd_ne h (by decide))), (fun h => f4 (upd_ne h (by decide))), (fun h => f6 (upd_ne h (by decide))), (fun _ => rfl), (fun _ => rfl), (fun h => f9 (upd_ne h (by decide))), (fun h => f10 (upd_ne h (by decide)))⟩, j, hj, ⟨((upd_no (by decide)).trans dd5), ((upd_no (by decide)).trans dd11), ((upd_no (by decide)).trans dd12), ((upd_no (by decide)).trans dd13)⟩, ⟨p0, p1, p2, p3, p4⟩⟩
    · rintro d ⟨x27, x28, x29, x30, x31, x32, x33, x34, x35, x36, x37, x38, x39, x8⟩ w' hI hd hdp KQ hK
      dsimp only at hI
      obtain ⟨hS, ⟨f0, f1, f2, f3, f4, f6, f7, f8, f9, f10⟩, j, hj, ⟨dd5, dd11, dd12, dd13⟩, ⟨p0, p1, p2, p3, p4⟩⟩ := hI
      have HF : Hid _ := And.intro hS (And.intro (And.intro f0 (And.intro f1 (And.intro f2 (And.intro f3 (And.intro f4 (And.intro f6 (And.intro f7 (And.intro f8 (And.intro f9 f10))))))))) (And.intro hj (And.intro (And.intro dd5 (And.intro dd11 (And.intro dd12 dd13))) (And.intro p0 (And.intro p1 (And.intro p2 (And.intro p3 p4)))))))
      clear hS f0 f1 f2 f3 f4 f6 f7 f8 f9 f10 hj dd5 dd11 dd12 dd13 p0 p1 p2 p3 p4 hdp hd
      refine Opn.mk ?_
      dsimp only
      go_simp
      obtain ⟨hS, ⟨f0, f1, f2, f3, f4, f6, f7, f8, f9, f10⟩, hj, ⟨dd5, dd11, dd12, dd13⟩, ⟨p0, p1, p2, p3, p4⟩⟩ := HF.out
      exact hK.out (x27, x28, x29, x30, x31, x32, x33, x34, x35, .pointer (some ⟨bx, 2, none⟩), x37, x38, x39, x8) _ ⟨hS, ⟨(fun h => f0 (upd_ne h (by decide))), (fun h => f1 (upd_ne h (by decide))), (fun h => f2 (upd_ne h (by decide))), (fun h => f3 (upd_ne h (by decide))), (fun h => f4 (upd_ne h (by decide))), (fun h => f6 (upd_ne h (by decide))), (fun h => f7 (upd_ne h (by decide))), (fun h => f8 (upd_ne h (by decide))), (fun _ => rfl), (fun h => f10 (upd_ne h (by decide)))⟩, j, hj, ⟨((upd_no (by decide)).trans dd5), ((upd_no (by decide)).trans dd11), ((upd_no (by decide)).trans dd12), ((upd_no (by decide)).trans dd13)⟩, ⟨p0, p1, p2, p3, p4⟩⟩
    · rintro d ⟨x27, x28, x29, x30, x31, x32, x33, x34, x35, x36, x37, x38, x39, x8⟩ w' hI hd hdp KQ hK
      dsimp only at hI
      obtain ⟨hS, ⟨f0, f1, f2, f3, f4, f6, f7, f8, f9, f10⟩, j, hj, ⟨dd5, dd11, dd12, dd13⟩, ⟨p0, p1, p2, p3, p4⟩⟩ := hI
      obtain rfl := f9 (hdp 9 (by decide +kernel))
      have cc : w'.cell? ⟨bx, 2, none⟩ = some (.slice ua bs.length uc) := BxA.cell hS 2 _ rfl
      have HF : Hid _ := And.intro hS (And.intro (And.intro f0 (And.intro f1 (And.intro f2 (And.intro f3 (And.intro f4 (And.intro f6 (And.intro f7 (And.intro f8 (And.intro f9 f10))))))))) (And.intro hj (And.intro (And.intro dd5 (And.intro dd11 (And.intro dd12 dd13))) (And.intro p0 (And.intro p1 (And.intro p2 (And.intro p3 p4)))))))
      clear hS f0 f1 f2 f3 f4 f6 f7 f8 f9 f10 hj dd5 dd11 dd12 dd13 p0 p1 p2 p3 p4 hdp hd
      refine Opn.mk ?_
      dsimp only
      go_simp
      obtain ⟨hS, ⟨f0, f1, f2, f3, f4, f6, f7, f8, f9, f10⟩, hj, ⟨dd5, dd11, dd12, dd13⟩, ⟨p0, p1, p2, p3, p4⟩⟩ := HF.out
      exact hK.out (x27, x28, x29, x30, x31, x32, x33, x34, x35, .pointer (some ⟨bx, 2, none⟩), .slice ua bs.length uc, x38, x39, x8) _ ⟨hS, ⟨(fun h => f0 (upd_ne h (by decide))), (fun h => f1 (upd_ne h (by decide))), (fun h => f2 (upd_ne h (by decide))), (fun h => f3 (upd_ne h (by decide))), (fun h => f4 (upd_ne h (by decide))), (fun h => f6 (upd_ne h (by decide))), (fun h => f7 (upd_ne h (by decide))), (fun h => f8 (upd_ne h (by decide))), (fun _ => rfl), (fun _ => rfl)⟩, j, hj, ⟨((upd_no (by decide)).trans dd5), ((upd_no (by decide)).trans dd11), ((upd_no (by decide)).trans dd12), ((upd_no (by decide)).trans dd13)⟩, ⟨p0, p1, p2, p3, p4⟩⟩
    · rintro d ⟨x27, x28, x29, x30, x31, x32, x33, x34, x35, x36, x37, x38, x39, x8⟩ w' hI hd hdp KQ hK
      dsimp only at hI
      obtain ⟨hS, ⟨f0, f1, f2, f3, f4, f6, f7, f8, f9, f10⟩, j, hj, ⟨dd5, dd11, dd12, dd13⟩, ⟨p0, p1, p2, p3, p4⟩⟩ := hI
      obtain rfl := f6 (hdp 6 (by decide +kernel))
      obtain rfl := f8 (hdp 8 (by decide +kernel))
      obtain rfl := f10 (hdp 10 (by decide +kernel))
      obtain rfl := ph_eq (k := 0) dd11 hd dd5 (hdp 5 (by decide +kernel))
      have s := p1 rfl
      clear p0 p1 p2 p3 p4 hj
      obtain ⟨ea, s⟩ := s
      have kk := ps_rput s HRX.out A (.slice ua bs.length uc) bs HN.out.1 HOK.out.r HNN.out.2.2.2.1 HN.out.2.2.2.2.2.2.1 HN.out.2.2.2.1
      rw [HC2.out] at kk
      have HG : Hid _ := And.intro hS (And.intro ea s)
      clear hS s ea
      have HF : Hid _ := And.intro (And.intro f0 (And.intro f1 (And.intro f2 (And.intro f3 (And.intro f4 (And.intro f6 (And.intro f7 (And.intro f8 (And.intro f9 f10))))))))) (And.intro dd5 (And.intro dd11 (And.intro dd12 dd13)))
      clear f0 f1 f2 f3 f4 f6 f7 f8 f9 f10 dd5 dd11 dd12 dd13 hdp hd
      refine Opn.mk ?_
      dsimp only
      go_simp
      go_wp2_with (first | (go_at_call 33; with_reducible refine kk.mono ?_; rintro e5 w5 ⟨rfl, G5⟩))
      obtain ⟨hS, ea, s⟩ := HG.out
      obtain ⟨⟨f0, f1, f2, f3, f4, f6, f7, f8, f9, f10⟩, ⟨dd5, dd11, dd12, dd13⟩⟩ := HF.out
      refine hK.out (x27, x28, x29, x30, x31, x32, .pointer (some ⟨rp, 0, none⟩), x34, .string ⟨A.toArray⟩, x36, .slice ua bs.length uc, .int .i64 (c : Int), x39, x8) _ ⟨?sg, ⟨(fun h => f0 (upd_ne h (by decide))), (fun h => f1 (upd_ne h (by decide))), (fun h => f2 (upd_ne h (by decide))), (fun h => f3 (upd_ne h (by decide))), (fun h => f4 (upd_ne h (by decide))), (fun _ => rfl), (fun h => f7 (upd_ne h (by decide))), (fun _ => rfl), (fun h => f9 (upd_ne h (by decide))), (fun _ => rfl)⟩, 2, by decide, ⟨((upd_no (by decide)).trans (dd5.trans (by decide))), (by simp [upd]), ((upd_no (by decide)).trans (dd12.trans (by decide))), ((upd_no (by decide)).trans (dd13.trans (by decide)))⟩, ⟨(fun h => absurd h (by decide)), (fun h => absurd h (by decide)), (fun _ => ?new), (fun h => absurd h (by decide)), (fun h => absurd h (by decide))⟩⟩
      case sg => exact G5.box
      case new =>
        exact ⟨ea, rfl, G5⟩
    · rintro d ⟨x27, x28, x29, x30, x31, x32, x33, x34, x35, x36, x37, x38, x39, x8⟩ w' hI hd hdp KQ hK
      dsimp only at hI
      obtain ⟨hS, ⟨f0, f1, f2, f3, f4, f6, f7, f8, f9, f10⟩, j, hj, ⟨dd5, dd11, dd12, dd13⟩, ⟨p0, p1, p2, p3, p4⟩⟩ := hI
      obtain rfl := ph_eq (k := 1) dd12 hd dd11 (hdp 11 (by decide +kernel))
      have s := p2 rfl
      clear p0 p1 p2 p3 p4 hj
      obtain ⟨ea, eb, s⟩ := s
      subst ea
      subst eb
      have HG : Hid _ := And.intro hS s
      clear hS s
      have HF : Hid _ := And.intro (And.intro f0 (And.intro f1 (And.intro f2 (And.intro f3 (And.intro f4 (And.intro f6 (And.intro f7 (And.intro f8 (And.intro f9 f10))))))))) (And.intro dd5 (And.intro dd11 (And.intro dd12 dd13)))
      clear f0 f1 f2 f3 f4 f6 f7 f8 f9 f10 dd5 dd11 dd12 dd13 hdp hd
      refine Opn.mk ?_
      dsimp only
      go_simp
      obtain ⟨hS, s⟩ := HG.out
      obtain ⟨⟨f0, f1, f2, f3, f4, f6, f7, f8, f9, f10⟩, ⟨dd5, dd11, dd12, dd13⟩⟩ := HF.out
      refine hK.out (x27, x28, x29, x30, x31, .int .i64 (c : Int), x33, x34, x35, x36, x37, .int .i64 (c : Int), .bool true, x8) _ ⟨?sg, ⟨(fun h => f0 (upd_ne h (by decide))), (fun h => f1 (upd_ne h (by decide))), (fun h => f2 (upd_ne h (by decide))), (fun h => f3 (upd_ne h (by decide))), (fun h => f4 (upd_ne h (by decide))), (fun h => f6 (upd_ne h (by decide))), (fun h => f7 (upd_ne h (by decide))), (fun h => f8 (upd_ne h (by decide))), (fun h => f9 (upd_ne h (by decide))), (fun h => f10 (upd_ne h (by decide)))⟩, 3, by decide, ⟨((upd_no (by decide)).trans (dd5.trans (by decide))), ((upd_no (by decide)).trans (dd11.trans (by decide))), (by simp [upd]), ((upd_no (by decide)).trans (dd13.trans (by decide)))⟩, ⟨(fun h => absurd h (by decide)), (fun h => absurd h (by decide)), (fun h => absurd h (by decide)), (fun _ => ?new), (fun h => absurd h (by decide))⟩⟩
      case sg => exact hS
      case new =>
        exact ⟨rfl, s⟩
    · rintro d ⟨x27, x28, x29, x30, x31, x32, x33, x34, x35, x36, x37, x38, x39, x8⟩ w' hI hd hdp KQ hK
      dsimp only at hI
      obtain ⟨hS, ⟨f0, f1, f2, f3, f4, f6, f7, f8, f9, f10⟩, j, hj, ⟨dd5, dd11, dd12, dd13⟩, ⟨p0, p1, p2, p3, p4⟩⟩ := hI
      obtain rfl := ph_eq (k := 2) dd13 hd dd12 (hdp 12 (by decide +kernel))
      have s := p3 rfl
      clear p0 p1 p2 p3 p4 hj
      obtain ⟨ea, s⟩ := s
      subst ea
      have HG : Hid _ := And.intro hS s
      clear hS s
      have HF : Hid _ := And.intro (And.intro f0 (And.intro f1 (And.intro f2 (And.intro f3 (And.intro f4 (And.intro f6 (And.intro f7 (And.intro f8 (And.intro f9 f10))))))))) (And.intro dd5 (And.intro dd11 (And.intro dd12 dd13)))
      clear f0 f1 f2 f3 f4 f6 f7 f8 f9 f10 dd5 dd11 dd12 dd13 hdp hd
      refine Opn.mk ?_
      dsimp only
      go_simp
      obtain ⟨hS, s⟩ := HG.out
      obtain ⟨⟨f0, f1, f2, f3, f4, f6, f7, f8, f9, f10⟩, ⟨dd5, dd11, dd12, dd13⟩⟩ := HF.out
      refine hK.out (x27, x28, x29, x30, x31, x32, x33, x34, x35, x36, x37, x38, .bool true, .bool true) _ ⟨?sg, ⟨(fun h => f0 (upd_ne h (by decide))), (fun h => f1 (upd_ne h (by decide))), (fun h => f2 (upd_ne h (by decide))), (fun h => f3 (upd_ne h (by decide))), (fun h => f4 (upd_ne h (by decide))), (fun h => f6 (upd_ne h (by decide))), (fun h => f7 (upd_ne h (by decide))), (fun h => f8 (upd_ne h (by decide))), (fun h => f9 (upd_ne h (by decide))), (fun h => f10 (upd_ne h (by decide)))⟩, 4, by decide, ⟨((upd_no (by decide)).trans (dd5.trans (by decide))), ((upd_no (by decide)).trans (dd11.trans (by decide))), ((upd_no (by decide)).trans (dd12.trans (by decide))), (by simp [upd])⟩, ⟨(fun h => absurd h (by decide)), (fun h => absurd h (by decide)), (fun h => absurd h (by decide)), (fun h => absurd h (by decide)), (fun _ => ?new)⟩⟩
      case sg => exact hS
      case new =>
        exact ⟨rfl, s⟩
  case he27 =>
    rintro d ⟨x27, x28, x29, x30, x31, x32, x33, x34, x35, x36, x37, x38, x39, x8⟩ w' hall hI
    dsimp only at hI
    obtain ⟨hS, ⟨f0, f1, f2, f3, f4, f6, f7, f8, f9, f10⟩, j, hj, ⟨dd5, dd11, dd12, dd13⟩, ⟨p0, p1, p2, p3, p4⟩⟩ := hI
    obtain rfl := ph_end (k := 3) hj dd13 (hall 13 (by decide))
    have s := p4 rfl
    clear hall hj f0 f1 f2 f3 f4 f6 f7 f8 f9 f10 dd5 dd11 dd12 dd13 p0 p1 p2 p3 p4
    obtain ⟨ea, s⟩ := s
    subst ea
    have HG : Hid _ := s
    clear hS s
    dsimp only
    go_wp2_with fail
    go_ret
    exact ⟨rfl, ⟨_, _, Ps.qp (t0 := tr) HG.out (HNN.out.2.2.2.2.1) (HR.out.putB A bs).2 (rputB_pt tr A bs).2 HB.out.1 (by rw [(rputB_pt tr A bs).1]; exact HB.out.2.1) (nms_putB HM.out A bs)⟩⟩
set_option maxRecDepth 100000 in
set_option maxHeartbeats 3200000 in
theorem both_3 (w0 w : World) (sp dp rp m : Nat) (sd : St) (tr : RSt) (K n : Int) (A : Str) (ua : Option Addr) (uc : Nat) (bs : Str) (h : Qp w0 w sp dp rp m sd tr) (hm : m < 100) (ok : OpM.Ok w0 1048576 ⟨K, A, .slice ua bs.length uc, bs, n⟩) (hk : absN K % 13 = 3) :
    Calls Try.prog 13 #[.pointer (some ⟨sp, 0, none⟩), .pointer (some ⟨dp, 0, none⟩), .pointer (some ⟨rp, 0, none⟩), .agg #[.int .i64 K, .string ⟨A.toArray⟩, .slice ua bs.length uc, .int .i64 n]] w fun e w' => e = .returned (.bool true) ∧ Bth w0 w' sp dp rp m := by
  have mixed : Try.prog.follows .mixedOrders = true := by kernel_rfl
  obtain ⟨W, hW⟩ : ∃ W, W = w.alloc (.cells #[.int .i64 K, .string ⟨A.toArray⟩, .slice ua bs.length uc, .int .i64 n] 35) := ⟨_, rfl⟩
  have hq := h.box hW
  have kAb := abs_any W K ok.k1 ok.k2
  have hab : (absN K : Int) % 13 = 3 := by omega
  have HR : Hid (Rel sd tr) := h.rel
  have HRX : Hid (∃ s, Rel s tr) := ⟨_, h.rel⟩
  have HM : Hid (NmS sd) := h.nm
  have HB : Hid (tr.n ≤ m * 1004 ∧ tr.part ≤ 9223372036854775807 ∧ m < 100) := ⟨h.n, h.part, hm⟩
  have HW : Hid (W = w.alloc (.cells #[.int .i64 K, .string ⟨A.toArray⟩, .slice ua bs.length uc, .int .i64 n] 35)) := hW
  have hA : A.length ≤ 1048576 := ok.a
  have HOK : Hid (OpM.Ok w0 1048576 ⟨K, A, .slice ua bs.length uc, bs, n⟩) := ok
  have hl : bs.length ≤ 1048576 := ok.rl
  have hop : sd.ops < 990000 := by have := h.n; have := h.rel.n; omega
  have hopt : tr.n < 990000 := by have := h.n; omega
  have HQ : Hid (Ps w0 W sp dp rp (m * 4194304) sd tr w.heap.size 35 #[.int .i64 K, .string ⟨A.toArray⟩, .slice ua bs.length uc, .int .i64 n]) := hq
  obtain ⟨bx, hbx⟩ : ∃ b, b = w.heap.size := ⟨_, rfl⟩
  rw [← hbx] at HQ
  have HN : Hid (A.length ≤ 2000000 ∧ sd.ops < 990000 ∧ tr.n < 990000 ∧ tr.part ≤ 9223372036854775807 ∧ Srt tr.fs ∧ sd.ops < 999000 ∧ tr.n < 999000 ∧ sd.ops < 1000000 ∧ tr.n < 1000000) := ⟨by omega, hop, hopt, h.part, h.rel.sp.srt, by omega, by omega, by omega, by omega⟩
  have HNN : Hid (m * 4194304 ≤ 140737488355328 ∧ m * 4194304 ≤ (m + 1) * 4194304 ∧ m * 4194304 + 1048584 ≤ 140737488355328 ∧ m * 4194304 + 1048584 + 1048584 ≤ 140737488355328 ∧ m * 4194304 + 1048584 + 1048584 ≤ (m + 1) * 4194304 ∧ m * 4194304 + bs.length ≤ 140737488355328 ∧ m * 4194304 + bs.length + bs.length ≤ 140737488355328 ∧ m * 4194304 + bs.length + bs.length ≤ (m + 1) * 4194304) := by apply hide; omega
  have c0 := HQ.out.box.cell 0 _ rfl
  clear hq h ok hW hm hA hl hop hopt hk
  go_enter Try.func13, Try.ntmps13
  go_wp2_with fail
  rw [← HW.out]
  go_wp2_with fail
  refine kAb.mono ?_
  rintro e wq ⟨rfl, rfl⟩
  clear kAb
  go_upto_region 6 with fail
  rw [← hbx]
  try rw [hab]
  clear hbx hab
  clear c0
  obtain ⟨c, hc⟩ : ∃ c, c = (bput sd A bs).1 := ⟨_, rfl⟩
  have HC1 : Hid ((bput sd A bs).1 = c) := hc.symm
  have HC2 : Hid ((rputB tr A bs).1 = c) := by apply hide; rw [hc]; exact (HR.out.putB A bs).1.symm
  have hSig0 : BxA wq.drew bx 35 #[.int .i64 K, .string ⟨A.toArray⟩, .slice ua bs.length uc, .int .i64 n] := HQ.out.box
  have hS00 : Ps w0 wq.drew sp dp rp (m * 4194304) sd tr bx 35 #[.int .i64 K, .string ⟨A.toArray⟩, .slice ua bs.length uc, .int .i64 n] := ps_drew HQ.out
  clear hc
  refine wp_region_invF (β := Value × Value × Value × Value × Value × Value × Value × Value × Value × Value × Value × Value × Value × Value) (fun a0 xq => ((((((((((((((a0.put (some 27) (xq.1)).put (some 28) (xq.2.1)).put (some 29) (xq.2.2.1)).put (some 30) (xq.2.2.2.1)).put (some 31) (xq.2.2.2.2.1)).put (some 32) (xq.2.2.2.2.2.1)).put (some 33) (xq.2.2.2.2.2.2.1)).put (some 34) (xq.2.2.2.2.2.2.2.1)).put (some 35) (xq.2.2.2.2.2.2.2.2.1)).put (some 36) (xq.2.2.2.2.2.2.2.2.2.1)).put (some 37) (xq.2.2.2.2.2.2.2.2.2.2.1)).put (some 38) (xq.2.2.2.2.2.2.2.2.2.2.2.1)).put (some 39) (xq.2.2.2.2.2.2.2.2.2.2.2.2.1)).put (some 8) (xq.2.2.2.2.2.2.2.2.2.2.2.2.2))) ?fr27 (fun xq d w' => (BxA w' bx 35 #[.int .i64 K, .string ⟨A.toArray⟩, .slice ua bs.length uc, .int .i64 n]) ∧ ((d 0 = true → (xq.1) = .pointer (some ⟨sp, 0, none⟩)) ∧ (d 1 = true → (xq.2.1) = .pointer (some ⟨bx, 1, none⟩)) ∧ (d 2 = true → (xq.2.2.1) = .string ⟨A.toArray⟩) ∧ (d 3 = true → (xq.2.2.2.1) = .pointer (some ⟨bx, 2, none⟩)) ∧ (d 4 = true → (xq.2.2.2.2.1) = .slice ua bs.length uc) ∧ (d 6 = true → (xq.2.2.2.2.2.2.1) = .pointer (some ⟨rp, 0, none⟩)) ∧ (d 7 = true → (xq.2.2.2.2.2.2.2.1) = .pointer (some ⟨bx, 1, none⟩)) ∧ (d 8 = true → (xq.2.2.2.2.2.2.2.2.1) = .string ⟨A.toArray⟩) ∧ (d 9 = true → (xq.2.2.2.2.2.2.2.2.2.1) = .pointer (some ⟨bx, 2, none⟩)) ∧ (d 10 = true → (xq.2.2.2.2.2.2.2.2.2.2.1) = .slice ua bs.length uc)) ∧ ∃ j : Nat, j ≤ 4 ∧ (d 5 = decide (0 < j) ∧ d 11 = decide (1 < j) ∧ d 12 = decide (2 < j) ∧ d 13 = decide (3 < j)) ∧ ((j = 0 → Ps w0 w' sp dp rp (m * 4194304) (sd) (tr) bx 35 #[.int .i64 K, .string ⟨A.toArray⟩, .slice ua bs.length uc, .int .i64 n]) ∧ (j = 1 → (xq.2.2.2.2.2.1) = .int .i64 (c : Int) ∧ Ps w0 w' sp dp rp (m * 4194304 + 1048584) ((bput sd A bs).2) (tr) bx 35 #[.int .i64 K, .string ⟨A.toArray⟩, .slice ua bs.length uc, .int .i64 n]) ∧ (j = 2 → (xq.2.2.2.2.2.1) = .int .i64 (c : Int) ∧ (xq.2.2.2.2.2.2.2.2.2.2.2.1) = .int .i64 (c : Int) ∧ Ps w0 w' sp dp rp (m * 4194304 + 1048584 + 1048584) ((bput sd A bs).2) ((rputB tr A bs).2) bx 35 #[.int .i64 K, .string ⟨A.toArray⟩, .slice ua bs.length uc, .int .i64 n]) ∧ (j = 3 → (xq.2.2.2.2.2.2.2.2.2.2.2.2.1) = .bool true ∧ Ps w0 w' sp dp rp (m * 4194304 + 1048584 + 1048584) ((bput sd A bs).2) ((rputB tr A bs).2) bx 35 #[.int .i64 K, .string ⟨A.toArray⟩, .slice ua bs.length uc, .int .i64 n]) ∧ (j = 4 → (xq.2.2.2.2.2.2.2.2.2.2.2.2.2) = .bool true ∧ Ps w0 w' sp dp rp (m * 4194304 + 1048584 + 1048584) ((bput sd A bs).2) ((rputB tr A bs).2) bx 35 #[.int .i64 K, .string ⟨A.toArray⟩, .slice ua bs.length uc, .int .i64 n]))) ?lay27 mixed (by kernel_rfl) ?h027 ?hs27 ?he27
  case lay27 =>
    intro xq
    simp only [Act.put, List.setIfInBounds_toArray, List.set_cons_zero, List.set_cons_succ]
    rfl
  case h027 =>
    refine ⟨(undef, undef, undef, undef, undef, undef, undef, undef, undef, undef, undef, undef, undef, .bool false), rfl, ?sig27, ⟨(fun h => by cases h), (fun h => by cases h), (fun h => by cases h), (fun h => by cases h), (fun h => by cases h), (fun h => by cases h), (fun h => by cases h), (fun h => by cases h), (fun h => by cases h), (fun h => by cases h)⟩, 0, Nat.zero_le _, ⟨rfl, rfl, rfl, rfl⟩, ?S027, (fun h => by cases h), (fun h => by cases h), (fun h => by cases h), (fun h => by cases h)⟩
    case sig27 => exact hSig0
    case S027 => exact fun _ => hS00
  case hs27 =>
    refine ⟨?_, ?_, ?_, ?_, ?_, ?_, ?_, ?_, ?_, ?_, ?_, ?_, ?_, ?_, trivial⟩
    · rintro d ⟨x27, x28, x29, x30, x31, x32, x33, x34, x35, x36, x37, x38, x39, x8⟩ w' hI hd hdp KQ hK
      dsimp only at hI
      obtain ⟨hS, ⟨f0, f1, f2, f3, f4, f6, f7, f8, f9, f10⟩, j, hj, ⟨dd5, dd11, dd12, dd13⟩, ⟨p0, p1, p2, p3, p4⟩⟩ := hI
      have HF : Hid _ := And.intro hS (And.intro (And.intro f0 (And.intro f1 (And.intro f2 (And.intro f3 (And.intro f4 (And.intro f6 (And.intro f7 (And.intro f8 (And.intro f9 f10))))))))) (And.intro hj (And.intro (And.intro dd5 (And.intro dd11 (And.intro dd12 dd13))) (And.intro p0 (And.intro p1 (And.intro p2 (And.intro p3 p4)))))))
      clear hS f0 f1 f2 f3 f4 f6 f7 f8 f9 f10 hj dd5 dd11 dd12 dd13 p0 p1 p2 p3 p4 hdp hd
      refine Opn.mk ?_
      dsimp only
      go_simp
      obtain ⟨hS, ⟨f0, f1, f2, f3, f4, f6, f7, f8, f9, f10⟩, hj, ⟨dd5, dd11, dd12, dd13⟩, ⟨p0, p1, p2, p3, p4⟩⟩ := HF.out
      exact hK.out (.pointer (some ⟨sp, 0, none⟩), x28, x29, x30, x31, x32, x33, x34, x35, x36, x37, x38, x39, x8) _ ⟨hS, ⟨(fun _ => rfl), (fun h => f1 (upd_ne h (by decide))), (fun h => f2 (upd_ne h (by decide))), (fun h => f3 (upd_ne h (by decide))), (fun h => f4 (upd_ne h (by decide))), (fun h => f6 (upd_ne h (by decide))), (fun h => f7 (upd_ne h (by decide))), (fun h => f8 (upd_ne h (by decide))), (fun h => f9 (upd_ne h (by decide))), (fun h => f10 (upd_ne h (by decide)))⟩, j, hj, ⟨((upd_no (by decide)).trans dd5), ((upd_no (by decide)).trans dd11), ((upd_no (by decide)).trans dd12), ((upd_no (by decide)).trans dd13)⟩, ⟨p0, p1, p2, p3, p4⟩⟩
    · rintro d ⟨x27, x28, x29, x30, x31, x32, x33, x34, x35, x36, x37, x38, x39, x8⟩ w' hI hd hdp KQ hK
      dsimp only at hI
      obtain ⟨hS, ⟨f0, f1, f2, f3, f4, f6, f7, f8, f9, f10⟩, j, hj, ⟨dd5, dd11, dd12, dd13⟩, ⟨p0, p1, p2, p3, p4⟩⟩ := hI
      have HF : Hid _ := And.intro hS (And.intro (And.intro f0 (And.intro f1 (And.intro f2 (And.intro f3 (And.intro f4 (And.intro f6 (And.intro f7 (And.intro f8 (And.intro f9 f10))))))))) (And.intro hj (And.intro (And.intro dd5 (And.intro dd11 (And.intro dd12 dd13))) (And.intro p0 (And.intro p1 (And.intro p2 (And.intro p3 p4)))))))
      clear hS f0 f1 f2 f3 f4 f6 f7 f8 f9 f10 hj dd5 dd11 dd12 dd13 p0 p1 p2 p3 p4 hdp hd
      refine Opn.mk ?_
      dsimp only
      go_simp
      obtain ⟨hS, ⟨f0, f1, f2, f3, f4, f6, f7, f8, f9, f10⟩, hj, ⟨dd5, dd11, dd12, dd13⟩, ⟨p0, p1, p2, p3, p4⟩⟩ := HF.out
      exact hK.out (x27, .pointer (some ⟨bx, 1, none⟩), x29, x30, x31, x32, x33, x34, x35, x36, x37, x38, x39, x8) _ ⟨hS, ⟨(fun h => f0 (upd_ne h (by decide))), (fun _ => rfl), (fun h => f2 (upd_ne h (by decide))), (fun h => f3 (upd_ne h (by decide))), (fun h => f4 (upd_ne h (by decide))), (fun h => f6 (upd_ne h (by decide))), (fun h => f7 (upd_ne h (by decide))), (fun h => f8 (upd_ne h (by decide))), (fun h => f9 (upd_ne h (by decide))), (fun h => f10 (upd_ne h (by decide)))⟩, j, hj, ⟨((upd_no (by decide)).trans dd5), ((upd_no (by decide)).trans dd11), ((upd_no (by decide)).trans dd12), ((upd_no (by decide)).trans dd13)⟩, ⟨p0, p1, p2, p3, p4⟩⟩
    · rintro d ⟨x27, x28, x29, x30, x31, x32, x33, x34, x35, x36, x37, x38, x39, x8⟩ w' hI hd hdp KQ hK
      dsimp only at hI
      obtain ⟨hS, ⟨f0, f1, f2, f3, f4, f6, f7, f8, f9, f10⟩, j, hj, ⟨dd5, dd11, dd12, dd13⟩, ⟨p0, p1, p2, p3, p4⟩⟩ := hI
      obtain rfl := f1 (hdp 1 (by decide +kernel))
      have cc : w'.cell? ⟨bx, 1, none⟩ = some (.string ⟨A.toArray⟩) := BxA.cell hS 1 _ rfl
      have HF : Hid _ := And.intro hS (And.intro (And.intro f0 (And.intro f1 (And.intro f2 (And.intro f3 (And.intro f4 (And.intro f6 (And.intro f7 (And.intro f8 (And.intro f9 f10))))))))) (And.intro hj (And.intro (And.intro dd5 (And.intro dd11 (And.intro dd12 dd13))) (And.intro p0 (And.intro p1 (And.intro p2 (And.intro p3 p4)))))))
      clear hS f0 f1 f2 f3 f4 f6 f7 f8 f9 f10 hj dd5 dd11 dd12 dd13 p0 p1 p2 p3 p4 hdp hd
      refine Opn.mk ?_
      dsimp only
      go_simp
      obtain ⟨hS, ⟨f0, f1, f2, f3, f4, f6, f7, f8, f9, f10⟩, hj, ⟨dd5, dd11, dd12, dd13⟩, ⟨p0, p1, p2, p3, p4⟩⟩ := HF.out
      exact hK.out (x27, .pointer (some ⟨bx, 1, none⟩), .string ⟨A.toArray⟩, x30, x31, x32, x33, x34, x35, x36, x37, x38, x39, x8) _ ⟨hS, ⟨(fun h => f0 (upd_ne h (by decide))), (fun _ => rfl), (fun _ => rfl), (fun h => f3 (upd_ne h (by decide))), (fun h => f4 (upd_ne h (by decide))), (fun h => f6 (upd_ne h (by decide))), (fun h => f7 (upd_ne h (by decide))), (fun h => f8 (upd_ne h (by decide))), (fun h => f9 (upd_ne h (by decide))), (fun h => f10 (upd_ne h (by decide)))⟩, j, hj, ⟨((upd_no (by decide)).trans dd5), ((upd_no (by decide)).trans dd11), ((upd_no (by decide)).trans dd12), ((upd_no (by decide)).trans dd13)⟩, ⟨p0, p1, p2, p3, p4⟩⟩
    · rintro d ⟨x27, x28, x29, x30, x31, x32, x33, x34, x35, x36, x37, x38, x39, x8⟩ w' hI hd hdp KQ hK
      dsimp only at hI
      obtain ⟨hS, ⟨f0, f1, f2, f3, f4, f6, f7, f8, f9, f10⟩, j, hj, ⟨dd5, dd11, dd12, dd13⟩, ⟨p0, p1, p2, p3, p4⟩⟩ := hI
      have HF : Hid _ := And.intro hS (And.intro (And.intro f0 (And.intro f1 (And.intro f2 (And.intro f3 (And.intro f4 (And.intro f6 (And.intro f7 (And.intro f8 (And.intro f9 f10))))))))) (And.intro hj (And.intro (And.intro dd5 (And.intro dd11 (And.intro dd12 dd13))) (And.intro p0 (And.intro p1 (And.intro p2 (And.intro p3 p4)))))))
      clear hS f0 f1 f2 f3 f4 f6 f7 f8 f9 f10 hj dd5 dd11 dd12 dd13 p0 p1 p2 p3 p4 hdp hd
      refine Opn.mk ?_
      dsimp only
      go_simp
      obtain ⟨hS, ⟨f0, f1, f2, f3, f4, f6, f7, f8, f9, f10⟩, hj, ⟨dd5, dd11, dd12, dd13⟩, ⟨p0, p1, p2, p3, p4⟩⟩ := HF.out
      exact hK.out (x27, x28, x29, .pointer (some ⟨bx, 2, none⟩), x31, x32, x33, x34, x35, x36, x37, x38, x39, x8) _ ⟨hS, ⟨(fun h => f0 (upd_ne h (by decide))), (fun h => f1 (upd_ne h (by decide))), (fun h => f2 (upd_ne h (by decide))), (fun _ => rfl), (fun h => f4 (upd_ne h (by decide))), (fun h => f6 (upd_ne h (by decide))), (fun h => f7 (upd_ne h (by decide))), (fun h => f8 (upd_ne h (by decide))), (fun h => f9 (upd_ne h (by decide))), (fun h => f10 (upd_ne h (by decide)))⟩, j, hj, ⟨((upd_no (by decide)).trans dd5), ((upd_no (by decide)).trans dd11), ((upd_no (by decide)).trans dd12), ((upd_no (by decide)).trans dd13)⟩, ⟨p0, p1, p2, p3, p4⟩⟩
    · rintro d ⟨x27, x28, x29, x30, x31, x32, x33, x34, x35, x36, x37, x38, x39, x8⟩ w' hI hd hdp KQ hK
      dsimp only at hI
      obtain ⟨hS, ⟨f0, f1, f2, f3, f4, f6, f7, f8, f9, f10⟩, j, hj, ⟨dd5, dd11, dd12, dd13⟩, ⟨p0, p1, p2, p3, p4⟩⟩ := hI
      obtain rfl := f3 (hdp 3 (by decide +kernel))
      have cc : w'.cell? ⟨bx, 2, none⟩ = some (.slice ua bs.length uc) := BxA.cell hS 2 _ rfl
      have HF : Hid _ := And.intro hS (And.intro (And.intro f0 (And.intro f1 (And.intro f2 (And.intro f3 (And.intro f4 (And.intro f6 (And.intro f7 (And.intro f8 (And.intro f9 f10))))))))) (And.intro hj (And.intro (And.intro dd5 (And.intro dd11 (And.intro dd12 dd13))) (And.intro p0 (And.intro p1 (And.intro p2 (And.intro p3 p4)))))))
      clear hS f0 f1 f2 f3 f4 f6 f7 f8 f9 f10 hj dd5 dd11 dd12 dd13 p0 p1 p2 p3 p4 hdp hd
      refine Opn.mk ?_
      dsimp only
      go_simp
      obtain ⟨hS, ⟨f0, f1, f2, f3, f4, f6, f7, f8, f9, f10⟩, hj, ⟨dd5, dd11, dd12, dd13⟩, ⟨p0, p1, p2, p3, p4⟩⟩ := HF.out
      exact hK.out (x27, x28, x29, .pointer (some ⟨bx, 2, none⟩), .slice ua bs.length uc, x32, x33, x34, x35, x36, x37, x38, x39, x8) _ ⟨hS, ⟨(fun h => f0 (upd_ne h (by decide))), (fun h => f1 (upd_ne h (by decide))), (fun h => f2 (upd_ne h (by decide))), (fun _ => rfl), (fun _ => rfl), (fun h => f6 (upd_ne h (by decide))), (fun h => f7 (upd_ne h (by decide))), (fun h => f8 (upd_ne h (by decide))), (fun h => f9 (upd_ne h (by decide))), (fun h => f10 (upd_ne h (by decide)))⟩, j, hj, ⟨((upd_no (by decide)).trans dd5), ((upd_no (by decide)).trans dd11), ((upd_no (by decide)).trans dd12), ((upd_no (by decide)).trans dd13)⟩, ⟨p0, p1, p2, p3, p4⟩⟩
    · rintro d ⟨x27, x28, x29, x30, x31, x32, x33, x34, x35, x36, x37, x38, x39, x8⟩ w' hI hd hdp KQ hK
      dsimp only at hI
      obtain ⟨hS, ⟨f0, f1, f2, f3, f4, f6, f7, f8, f9, f10⟩, j, hj, ⟨dd5, dd11, dd12, dd13⟩, ⟨p0, p1, p2, p3, p4⟩⟩ := hI
      obtain rfl := f0 (hdp 0 (by decide +kernel))
      obtain rfl := f2 (hdp 2 (by decide +kernel))
      obtain rfl := f4 (hdp 4 (by decide +kernel))
      obtain rfl := ph_zero dd5 hd
      have s := p0 rfl
      clear p0 p1 p2 p3 p4 hj
      have kk := ps_put s A (.slice ua bs.length uc) bs HN.out.1 HOK.out.r HNN.out.2.2.1 HN.out.2.2.2.2.2.1
      rw [HC1.out] at kk
      have HG : Hid _ := And.intro hS s
      clear hS s
      have HF : Hid _ := And.intro (And.intro f0 (And.intro f1 (And.intro f2 (And.intro f3 (And.intro f4 (And.intro f6 (And.intro f7 (And.intro f8 (And.intro f9 f10))))))))) (And.intro dd5 (And.intro dd11 (And.intro dd12 dd13)))
      clear f0 f1 f2 f3 f4 f6 f7 f8 f9 f10 dd5 dd11 dd12 dd13 hdp hd
      refine Opn.mk ?_
      dsimp only
      go_simp
      go_wp2_with (first | (go_at_call 19; with_reducible refine kk.mono ?_; rintro e5 w5 ⟨rfl, G5⟩))
      obtain ⟨hS, s⟩ := HG.out
      obtain ⟨⟨f0, f1, f2, f3, f4, f6, f7, f8, f9, f10⟩, ⟨dd5, dd11, dd12, dd13⟩⟩ := HF.out
      refine hK.out (.pointer (some ⟨sp, 0, none⟩), x28, .string ⟨A.toArray⟩, x30, .slice ua bs.length uc, .int .i64 (c : Int), x33, x34, x35, x36, x37, x38, x39, x8) _ ⟨?sg, ⟨(fun _ => rfl), (fun h => f1 (upd_ne h (by decide))), (fun _ => rfl), (fun h => f3 (upd_ne h (by decide))), (fun _ => rfl), (fun h => f6 (upd_ne h (by decide))), (fun h => f7 (upd_ne h (by decide))), (fun h => f8 (upd_ne h (by decide))), (fun h => f9 (upd_ne h (by decide))), (fun h => f10 (upd_ne h (by decide)))⟩, 1, by decide, ⟨(by simp [upd]), ((upd_no (by decide)).trans (dd11.trans (by decide))), ((upd_no (by decide)).trans (dd12.trans (by decide))), ((upd_no (by decide)).trans (dd13.trans (by decide)))⟩, ⟨(fun h => absurd h (by decide)), (fun _ => ?new), (fun h => absurd h (by decide)), (fun h => absurd h (by decide)), (fun h => absurd h (by decide))⟩⟩
      case sg => exact G5.box
      case new =>
        exact ⟨rfl, G5⟩
    · rintro d ⟨x27, x28, x29, x30, x31, x32, x33, x34, x35, x36, x37, x38, x39, x8⟩ w' hI hd hdp KQ hK
      dsimp only at hI
      obtain ⟨hS, ⟨f0, f1, f2, f3, f4, f6, f7, f8, f9, f10⟩, j, hj, ⟨dd5, dd11, dd12, dd13⟩, ⟨p0, p1, p2, p3, p4⟩⟩ := hI
      have HF : Hid _ := And.intro hS (And.intro (And.intro f0 (And.intro f1 (And.intro f2 (And.intro f3 (And.intro f4 (And.intro f6 (And.intro f7 (And.intro f8 (And.intro f9 f10))))))))) (And.intro hj (And.intro (And.intro dd5 (And.intro dd11 (And.intro dd12 dd13))) (And.intro p0 (And.intro p1 (And.intro p2 (And.intro p3 p4)))))))
      clear hS f0 f1 f2 f3 f4 f6 f7 f8 f9 f10 hj dd5 dd11 dd12 dd13 p0 p1 p2 p3 p4 hdp hd
      refine Opn.mk ?_
      dsimp only
      go_simp
      obtain ⟨hS, ⟨f0, f1, f2, f3, f4, f6, f7, f8, f9, f10⟩, hj, ⟨dd5, dd11, dd12, dd13⟩, ⟨p0, p1, p2, p3, p4⟩⟩ := HF.out
      exact hK.out (x27, x28, x29, x30, x31, x32, .pointer (some ⟨rp, 0, none⟩), x34, x35, x36, x37, x38, x39, x8) _ ⟨hS, ⟨(fun h => f0 (upd_ne h (by decide))), (fun h => f1 (upd_ne h (by decide))), (fun h => f2 (upd_ne h (by decide))), (fun h => f3 (upd_ne h (by decide))), (fun h => f4 (upd_ne h (by decide))), (fun _ => rfl), (fun h => f7 (upd_ne h (by decide))), (fun h => f8 (upd_ne h (by decide))), (fun h => f9 (upd_ne h (by decide))), (fun h => f10 (upd_ne h (by decide)))⟩, j, hj, ⟨((upd_no (by decide)).trans dd5), ((upd_no (by decide)).trans dd11), ((upd_no (by decide)).trans dd12), ((upd_no (by decide)).trans dd13)⟩, ⟨p0, p1, p2, p3, p4⟩⟩
    · rintro d ⟨x27, x28, x29, x30, x31, x32, x33, x34, x35, x36, x37, x38, x39, x8⟩ w' hI hd hdp KQ hK
      dsimp only at hI
      obtain ⟨hS, ⟨f0, f1, f2, f3, f4, f6, f7, f8, f9, f10⟩, j, hj, ⟨dd5, dd11, dd12, dd13⟩, ⟨p0, p1, p2, p3, p4⟩⟩ := hI
      have HF : Hid _ := And.intro hS (And.intro (And.intro f0 (And.intro f1 (And.intro f2 (And.intro f3 (And.intro f4 (And.intro f6 (And.intro f7 (And.intro f8 (And.intro f9 f10))))))))) (And.intro hj (And.intro (And.intro dd5 (And.intro dd11 (And.intro dd12 dd13))) (And.intro p0 (And.intro p1 (And.intro p2 (And.intro p3 p4)))))))
      clear hS f0 f1 f2 f3 f4 f6 f7 f8 f9 f10 hj dd5 dd11 dd12 dd13 p0 p1 p2 p3 p4 hdp hd
      refine Opn.mk ?_
      dsimp only
      go_simp
      obtain ⟨hS, ⟨f0, f1, f2, f3, f4, f6, f7, f8, f9, f10⟩, hj, ⟨dd5, dd11, dd12, dd13⟩, ⟨p0, p1, p2, p3, p4⟩⟩ := HF.out
      exact hK.out (x27, x28, x29, x30, x31, x32, x33, .pointer (some ⟨bx, 1, none⟩), x35, x36, x37, x38, x39, x8) _ ⟨hS, ⟨(fun h => f0 (upd_ne h (by decide))), (fun h => f1 (upd_ne h (by decide))), (fun h => f2 (upd_ne h (by decide))), (fun h => f3 (upd_ne h (by decide))), (fun h => f4 (upd_ne h (by decide))), (fun h => f6 (upd_ne h (by decide))), (fun _ => rfl), (fun h => f8 (upd_ne h (by decide))), (fun h => f9 (upd_ne h (by decide))), (fun h => f10 (upd_ne h (by decide)))⟩, j, hj, ⟨((upd_no (by decide)).trans dd5), ((upd_no (by decide)).trans dd11), ((upd_no (by decide)).trans dd12), ((upd_no (by decide)).trans dd13)⟩, ⟨p0, p1, p2, p3, p4⟩⟩
    · rintro d ⟨x27, x28, x29, x30, x31, x32, x33, x34, x35, x36, x37, x38, x39, x8⟩ w' hI hd hdp KQ hK
      dsimp only at hI
      obtain ⟨hS, ⟨f0, f1, f2, f3, f4, f6, f7, f8, f9, f10⟩, j, hj, ⟨dd5, dd11, dd12, dd13⟩, ⟨p0, p1, p2, p3, p4⟩⟩ := hI
      obtain rfl := f7 (hdp 7 (by decide +kernel))
      have cc : w'.cell? ⟨bx, 1, none⟩ = some (.string ⟨A.toArray⟩) := BxA.cell hS 1 _ rfl
      have HF : Hid _ := And.intro hS (And.intro (And.intro f0 (And.intro f1 (And.intro f2 (And.intro f3 (And.intro f4 (And.intro f6 (And.intro f7 (And.intro f8 (And.intro f9 f10))))))))) (And.intro hj (And.intro (And.intro dd5 (And.intro dd11 (And.intro dd12 dd13))) (And.intro p0 (And.intro p1 (And.intro p2 (And.intro p3 p4)))))))
      clear hS f0 f1 f2 f3 f4 f6 f7 f8 f9 f10 hj dd5 dd11 dd12 dd13 p0 p1 p2 p3 p4 hdp hd
      refine Opn.mk ?_
      dsimp only
      go_simp
      obtain ⟨hS, ⟨f0, f1, f2, f3, f4, f6, f7, f8, f9, f10⟩, hj, ⟨dd5, dd11, dd12, dd13⟩, ⟨p0, p1, p2, p3, p4⟩⟩ := HF.out
      exact hK.out (x27, x28, x29, x30, x31, x32, x33, .pointer (some ⟨bx, 1, none⟩), .string ⟨A.toArray⟩, x36, x37, x38, x39, x8) _ ⟨hS, ⟨(fun h => f0 (upd_ne h (by decide))), (fun h => f1 (upd_ne h (by decide))), (fun h => f2 (upd_ne h (by decide))), (fun h => f3 (upd_ne h (by decide))), (fun h => f4 (upd_ne h (by decide))), (fun h => f6 (upd_ne h (by decide))), (fun _ => rfl), (fun _ => rfl), (fun h => f9 (upd_ne h (by decide))), (fun h => f10 (upd_ne h (by decide)))⟩, j, hj, ⟨((upd_no (by decide)).trans dd5), ((upd_no (by decide)).trans dd11), ((upd_no (by decide)).trans dd12), ((upd_no (by decide)).trans dd13)⟩, ⟨p0, p1, p2, p3, p4⟩⟩
    · rintro d ⟨x27, x28, x29, x30, x31, x32, x33, x34, x35, x36, x37, x38, x39, x8⟩ w' hI hd hdp KQ hK
      dsimp only at hI
      obtain ⟨hS, ⟨f0, f1, f2, f3, f4, f6, f7, f8, f9, f10⟩, j, hj, ⟨dd5, dd11, dd12, dd13⟩, ⟨p0, p1, p2, p3, p4⟩⟩ := hI
      have HF : Hid _ := And.intro hS (And.intro (And.intro f0 (And.intro f1 (And.intro f2 (And.intro f3 (And.intro f4 (And.intro f6 (And.intro f7 (And.intro f8 (And.intro f9 f10))))))))) (And.intro hj (And.intro (And.intro dd5 (And.intro dd11 (And.intro dd12 dd13))) (And.intro p0 (And.intro p1 (And.intro p2 (And.intro p3 p4)))))))
      clear hS f0 f1 f2 f3 f4 f6 f7 f8 f9 f10 hj dd5 dd11 dd12 dd13 p0 p1 p2 p3 p4 hdp hd
      refine Opn.mk ?_
      dsimp only
      go_simp
      obtain ⟨hS, ⟨f0, f1, f2, f3, f4, f6, f7, f8, f9, f10⟩, hj, ⟨dd5, dd11, dd12, dd13⟩, ⟨p0, p1, p2, p3, p4⟩⟩ := HF.out
      exact hK.out (x27, x28, x29, x30, x31, x32, x33, x34, x35, .pointer (some ⟨bx, 2, none⟩), x37, x38, x39, x8) _ ⟨hS, ⟨(fun h => f0 (upd_ne h (by decide))), (fun h => f1 (upd_ne h (by decide))), (fun h => f2 (upd_ne h (by decide))), (fun h => f3 (upd_ne h (by decide))), (fun h => f4 (upd_ne h (by decide))), (fun h => f6 (upd_ne h (by decide))), (fun h => f7 (upd_ne h (by decide))), (fun h => f8 (upd_ne h (by decide))), (fun _ => rfl), (fun h => f10 (upd_ne h (by decide)))⟩, j, hj, ⟨((upd_no (by decide)).trans dd5), ((upd_no (by decide)).trans dd11), ((upd_no (by decide)).trans dd12), ((upd_no (by decide)).trans dd13)⟩, ⟨p0, p1, p2, p3, p4⟩⟩
    · rintro d ⟨x27, x28, x29, x30, x31, x32, x33, x34, x35, x36, x37, x38, x39, x8⟩ w' hI hd hdp KQ hK
      dsimp only at hI
      obtain ⟨hS, ⟨f0, f1, f2, f3, f4, f6, f7, f8, f9, f10⟩, j, hj, ⟨dd5, dd11, dd12, dd13⟩, ⟨p0, p1, p2, p3, p4⟩⟩ := hI
      obtain rfl := f9 (hdp 9 (by decide +kernel))
      have cc : w'.cell? ⟨bx, 2, none⟩ = some (.slice ua bs.length uc) := BxA.cell hS 2 _ rfl
      have HF : Hid _ := And.intro hS (And.intro (And.intro f0 (And.intro f1 (And.intro f2 (And.intro f3 (And.intro f4 (And.intro f6 (And.intro f7 (And.intro f8 (And.intro f9 f10))))))))) (And.intro hj (And.intro (And.intro dd5 (And.intro dd11 (And.intro dd12 dd13))) (And.intro p0 (And.intro p1 (And.intro p2 (And.intro p3 p4)))))))
      clear hS f0 f1 f2 f3 f4 f6 f7 f8 f9 f10 hj dd5 dd11 dd12 dd13 p0 p1 p2 p3 p4 hdp hd
      refine Opn.mk ?_
      dsimp only
      go_simp
      obtain ⟨hS, ⟨f0, f1, f2, f3, f4, f6, f7, f8, f9, f10⟩, hj, ⟨dd5, dd11, dd12, dd13⟩, ⟨p0, p1, p2, p3, p4⟩⟩ := HF.out
      exact hK.out (x27, x28, x29, x30, x31, x32, x33, x34, x35, .pointer (some ⟨bx, 2, none⟩), .slice ua bs.length uc, x38, x39, x8) _ ⟨hS, ⟨(fun h => f0 (upd_ne h (by decide))), (fun h => f1 (upd_ne h (by decide))), (fun h => f2 (upd_ne h (by decide))), (fun h => f3 (upd_ne h (by decide))), (fun h => f4 (upd_ne h (by decide))), (fun h => f6 (upd_ne h (by decide))), (fun h => f7 (upd_ne h (by decide))), (fun h => f8 (upd_ne h (by decide))), (fun _ => rfl), (fun _ => rfl)⟩, j, hj, ⟨((upd_no (by decide)).trans dd5), ((upd_no (by decide)).trans dd11), ((upd_no (by decide)).trans dd12), ((upd_no (by decide)).trans dd13)⟩, ⟨p0, p1, p2, p3, p4⟩⟩
    · rintro d ⟨x27, x28, x29, x30, x31, x32, x33, x34, x35, x36, x37, x38, x39, x8⟩ w' hI hd hdp KQ hK
      dsimp only at hI
      obtain ⟨hS, ⟨f0, f1, f2, f3, f4, f6, f7, f8, f9, f10⟩, j, hj, ⟨dd5, dd11, dd12, dd13⟩, ⟨p0, p1, p2, p3, p4⟩⟩ := hI
      obtain rfl := f6 (hdp 6 (by decide +kernel))
      obtain rfl := f8 (hdp 8 (by decide +kernel))
      obtain rfl := f10 (hdp 10 (by decide +kernel))
      obtain rfl := ph_eq (k := 0) dd11 hd dd5 (hdp 5 (by decide +kernel))
      have s := p1 rfl
      clear p0 p1 p2 p3 p4 hj
      obtain ⟨ea, s⟩ := s
      have kk := ps_rput s HRX.out A (.slice ua bs.length uc) bs HN.out.1 HOK.out.r HNN.out.2.2.2.1 HN.out.2.2.2.2.2.2.1 HN.out.2.2.2.1
      rw [HC2.out] at kk
      have HG : Hid _ := And.intro hS (And.intro ea s)
      clear hS s ea
      have HF : Hid _ := And.intro (And.intro f0 (And.intro f1 (And.intro f2 (And.intro f3 (And.intro f4 (And.intro f6 (And.intro f7 (And.intro f8 (And.intro f9 f10))))))))) (And.intro dd5 (And.intro dd11 (And.intro dd12 dd13)))
      clear f0 f1 f2 f3 f4 f6 f7 f8 f9 f10 dd5 dd11 dd12 dd13 hdp hd
      refine Opn.mk ?_
      dsimp only
      go_simp
      go_wp2_with (first | (go_at_call 33; with_reducible refine kk.mono ?_; rintro e5 w5 ⟨rfl, G5⟩))
      obtain ⟨hS, ea, s⟩ := HG.out
      obtain ⟨⟨f0, f1, f2, f3, f4, f6, f7, f8, f9, f10⟩, ⟨dd5, dd11, dd12, dd13⟩⟩ := HF.out
      refine hK.out (x27, x28, x29, x30, x31, x32, .pointer (some ⟨rp, 0, none⟩), x34, .string ⟨A.toArray⟩, x36, .slice ua bs.length uc, .int .i64 (c : Int), x39, x8) _ ⟨?sg, ⟨(fun h => f0 (upd_ne h (by decide))), (fun h => f1 (upd_ne h (by decide))), (fun h => f2 (upd_ne h (by decide))), (fun h => f3 (upd_ne h (by decide))), (fun h => f4 (upd_ne h (by decide))), (fun _ => rfl), (fun h => f7 (upd_ne h (by decide))), (fun _ => rfl), (fun h => f9 (upd_ne h (by decide))), (fun _ => rfl)⟩, 2, by decide, ⟨((upd_no (by decide)).trans (dd5.trans (by decide))), (by simp [upd]), ((upd_no (by decide)).trans (dd12.trans (by decide))), ((upd_no (by decide)).trans (dd13.trans (by decide)))⟩, ⟨(fun h => absurd h (by decide)), (fun h => absurd h (by decide)), (fun _ => ?new), (fun h => absurd h (by decide)), (fun h => absurd h (by decide))⟩⟩
      case sg => exact G5.box
      case new =>
        exact ⟨ea, rfl, G5⟩
    · rintro d ⟨x27, x28, x29, x30, x31, x32, x33, x34, x35, x36, x37, x38, x39, x8⟩ w' hI hd hdp KQ hK
      dsimp only at hI
      obtain ⟨hS, ⟨f0, f1, f2, f3, f4, f6, f7, f8, f9, f10⟩, j, hj, ⟨dd5, dd11, dd12, dd13⟩, ⟨p0, p1, p2, p3, p4⟩⟩ := hI
      obtain rfl := ph_eq (k := 1) dd12 hd dd11 (hdp 11 (by decide +kernel))
      have s := p2 rfl
      clear p0 p1 p2 p3 p4 hj
      obtain ⟨ea, eb, s⟩ := s
      subst ea
      subst eb
      have HG : Hid _ := And.intro hS s
      clear hS s
      have HF : Hid _ := And.intro (And.intro f0 (And.intro f1 (And.intro f2 (And.intro f3 (And.intro f4 (And.intro f6 (And.intro f7 (And.intro f8 (And.intro f9 f10))))))))) (And.intro dd5 (And.intro dd11 (And.intro dd12 dd13)))
      clear f0 f1 f2 f3 f4 f6 f7 f8 f9 f10 dd5 dd11 dd12 dd13 hdp hd
      refine Opn.mk ?_
      dsimp only
      go_simp
      obtain ⟨hS, s⟩ := HG.out
      obtain ⟨⟨f0, f1, f2, f3, f4, f6, f7, f8, f9, f10⟩, ⟨dd5, dd11, dd12, dd13⟩⟩ := HF.out
      refine hK.out (x27, x28, x29, x30, x31, .int .i64 (c : Int), x33, x34, x35, x36, x37, .int .i64 (c : Int), .bool true, x8) _ ⟨?sg, ⟨(fun h => f0 (upd_ne h (by decide))), (fun h => f1 (upd_ne h (by decide))), (fun h => f2 (upd_ne h (by decide))), (fun h => f3 (upd_ne h (by decide))), (fun h => f4 (upd_ne h (by decide))), (fun h => f6 (upd_ne h (by decide))), (fun h => f7 (upd_ne h (by decide))), (fun h => f8 (upd_ne h (by decide))), (fun h => f9 (upd_ne h (by decide))), (fun h => f10 (upd_ne h (by decide)))⟩, 3, by decide, ⟨((upd_no (by decide)).trans (dd5.trans (by decide))), ((upd_no (by decide)).trans (dd11.trans (by decide))), (by simp [upd]), ((upd_no (by decide)).trans (dd13.trans (by decide)))⟩, ⟨(fun h => absurd h (by decide)), (fun h => absurd h (by decide)), (fun h => absurd h (by decide)), (fun _ => ?new), (fun h => absurd h (by decide))⟩⟩
      case sg => exact hS
      case new =>
        exact ⟨rfl, s⟩
    · rintro d ⟨x27, x28, x29, x30, x31, x32, x33, x34, x35, x36, x37, x38, x39, x8⟩ w' hI hd hdp KQ hK
      dsimp only at hI
      obtain ⟨hS, ⟨f0, f1, f2, f3, f4, f6, f7, f8, f9, f10⟩, j, hj, ⟨dd5, dd11, dd12, dd13⟩, ⟨p0, p1, p2, p3, p4⟩⟩ := hI
      obtain rfl := ph_eq (k := 2) dd13 hd dd12 (hdp 12 (by decide +kernel))
      have s := p3 rfl
      clear p0 p1 p2 p3 p4 hj
      obtain ⟨ea, s⟩ := s
      subst ea
      have HG : Hid _ := And.intro hS s
      clear hS s
      have HF : Hid _ := And.intro (And.intro f0 (And.intro f1 (And.intro f2 (And.intro f3 (And.intro f4 (And.intro f6 (And.intro f7 (And.intro f8 (And.intro f9 f10))))))))) (And.intro dd5 (And.intro dd11 (And.intro dd12 dd13)))
      clear f0 f1 f2 f3 f4 f6 f7 f8 f9 f10 dd5 dd11 dd12 dd13 hdp hd
      refine Opn.mk ?_
      dsimp only
      go_simp
      obtain ⟨hS, s⟩ := HG.out
      obtain ⟨⟨f0, f1, f2, f3, f4, f6, f7, f8, f9, f10⟩, ⟨dd5, dd11, dd12, dd13⟩⟩ := HF.out
      refine hK.out (x27, x28, x29, x30, x31, x32, x33, x34, x35, x36, x37, x38, .bool true, .bool true) _ ⟨?sg, ⟨(fun h => f0 (upd_ne h (by decide))), (fun h => f1 (upd_ne h (by decide))), (fun h => f2 (upd_ne h (by decide))), (fun h => f3 (upd_ne h (by decide))), (fun h => f4 (upd_ne h (by decide))), (fun h => f6 (upd_ne h (by decide))), (fun h => f7 (upd_ne h (by decide))), (fun h => f8 (upd_ne h (by decide))), (fun h => f9 (upd_ne h (by decide))), (fun h => f10 (upd_ne h (by decide)))⟩, 4, by decide, ⟨((upd_no (by decide)).trans (dd5.trans (by decide))), ((upd_no (by decide)).trans (dd11.trans (by decide))), ((upd_no (by decide)).trans (dd12.trans (by decide))), (by simp [upd])⟩, ⟨(fun h => absurd h (by decide)), (fun h => absurd h (by decide)), (fun h => absurd h (by decide)), (fun h => absurd h (by decide)), (fun _ => ?new)⟩⟩
      case sg => exact hS
      case new =>
        exact ⟨rfl, s⟩
  case he27 =>
    rintro d ⟨x27, x28, x29, x30, x31, x32, x33, x34, x35, x36, x37, x38, x39, x8⟩ w' hall hI
    dsimp only at hI
    obtain ⟨hS, ⟨f0, f1, f2, f3, f4, f6, f7, f8, f9, f10⟩, j, hj, ⟨dd5, dd11, dd12, dd13⟩, ⟨p0, p1, p2, p3, p4⟩⟩ := hI
    obtain rfl := ph_end (k := 3) hj dd13 (hall 13 (by decide))
    have s := p4 rfl
    clear hall hj f0 f1 f2 f3 f4 f6 f7 f8 f9 f10 dd5 dd11 dd12 dd13 p0 p1 p2 p3 p4
    obtain ⟨ea, s⟩ := s
    subst ea
    have HG : Hid _ := s
    clear hS s
    dsimp only
    go_wp2_with fail
    go_ret
    exact ⟨rfl, ⟨_, _, Ps.qp (t0 := tr) HG.out (HNN.out.2.2.2.2.1) (HR.out.putB A bs).2 (rputB_pt tr A bs).2 HB.out.1 (by rw [(rputB_pt tr A bs).1]; exact HB.out.2.1) (nms_putB HM.out A bs)⟩⟩
set_option maxRecDepth 100000 in
set_option maxHeartbeats 3200000 in
theorem both_7 (w0 w : World) (sp dp rp m : Nat) (sd : St) (tr : RSt) (K n : Int) (A : Str) (ua : Option Addr) (uc : Nat) (bs : Str) (h : Qp w0 w sp dp rp m sd tr) (hm : m < 100) (ok : OpM.Ok w0 1048576 ⟨K, A, .slice ua bs.length uc, bs, n⟩) (hk : absN K % 13 = 7) :
    Calls Try.prog 13 #[.pointer (some ⟨sp, 0, none⟩), .pointer (some ⟨dp, 0, none⟩), .pointer (some ⟨rp, 0, none⟩), .agg #[.int .i64 K, .string ⟨A.toArray⟩, .slice ua bs.length uc, .int .i64 n]] w fun e w' => e = .returned (.bool true) ∧ Bth w0 w' sp dp rp m := by
  have mixed : Try.prog.follows .mixedOrders = true := by kernel_rfl
  obtain ⟨W, hW⟩ : ∃ W, W = w.alloc (.cells #[.int .i64 K, .string ⟨A.toArray⟩, .slice ua bs.length uc, .int .i64 n] 35) := ⟨_, rfl⟩
  have hq := h.box hW
  have kAb := abs_any W K ok.k1 ok.k2
  have hab : (absN K : Int) % 13 = 7 := by omega
  have HR : Hid (Rel sd tr) := h.rel
  have HRX : Hid (∃ s, Rel s tr) := ⟨_, h.rel⟩
  have HM : Hid (NmS sd) := h.nm
  have HB : Hid (tr.n ≤ m * 1004 ∧ tr.part ≤ 9223372036854775807 ∧ m < 100) := ⟨h.n, h.part, hm⟩
  have HW : Hid (W = w.alloc (.cells #[.int .i64 K, .string ⟨A.toArray⟩, .slice ua bs.length uc, .int .i64 n] 35)) := hW
  have hA : A.length ≤ 1048576 := ok.a
  have HOK : Hid (OpM.Ok w0 1048576 ⟨K, A, .slice ua bs.length uc, bs, n⟩) := ok
  have hl : bs.length ≤ 1048576 := ok.rl
  have hop : sd.ops < 990000 := by have := h.n; have := h.rel.n; omega
  have hopt : tr.n < 990000 := by have := h.n; omega
  have HQ : Hid (Ps w0 W sp dp rp (m * 4194304) sd tr w.heap.size 35 #[.int .i64 K, .string ⟨A.toArray⟩, .slice ua bs.length uc, .int .i64 n]) := hq
  obtain ⟨bx, hbx⟩ : ∃ b, b = w.heap.size := ⟨_, rfl⟩
  rw [← hbx] at HQ
  have HN : Hid (A.length ≤ 2000000 ∧ sd.ops < 990000 ∧ tr.n < 990000 ∧ tr.part ≤ 9223372036854775807 ∧ Srt tr.fs ∧ sd.ops < 999000 ∧ tr.n < 999000 ∧ sd.ops < 1000000 ∧ tr.n < 1000000) := ⟨by omega, hop, hopt, h.part, h.rel.sp.srt, by omega, by omega, by omega, by omega⟩
  have HNN : Hid (m * 4194304 ≤ 140737488355328 ∧ m * 4194304 ≤ (m + 1) * 4194304 ∧ m * 4194304 + 1048584 ≤ 140737488355328 ∧ m * 4194304 + 1048584 + 1048584 ≤ 140737488355328 ∧ m * 4194304 + 1048584 + 1048584 ≤ (m + 1) * 4194304 ∧ m * 4194304 + bs.length ≤ 140737488355328 ∧ m * 4194304 + bs.length + bs.length ≤ 140737488355328 ∧ m * 4194304 + bs.length + bs.length ≤ (m + 1) * 4194304) := by apply hide; omega
  have c0 := HQ.out.box.cell 0 _ rfl
  clear hq h ok hW hm hA hl hop hopt hk
  go_enter Try.func13, Try.ntmps13
  go_wp2_with fail
  rw [← HW.out]
  go_wp2_with fail
  refine kAb.mono ?_
  rintro e wq ⟨rfl, rfl⟩
  clear kAb
  go_upto_region 15 with fail
  rw [← hbx]
  try rw [hab]
  clear hbx hab
  clear c0
  obtain ⟨c, hc⟩ : ∃ c, c = (bdel sd A).1 := ⟨_, rfl⟩
  have HC1 : Hid ((bdel sd A).1 = c) := hc.symm
  have HC2 : Hid ((rdelB tr A).1 = c) := by apply hide; rw [hc]; exact (HR.out.delB A).1.symm
  have hSig0 : BxA wq.drew bx 35 #[.int .i64 K, .string ⟨A.toArray⟩, .slice ua bs.length uc, .int .i64 n] := HQ.out.box
  have hS00 : Ps w0 wq.drew sp dp rp (m * 4194304) sd tr bx 35 #[.int .i64 K, .string ⟨A.toArray⟩, .slice ua bs.length uc, .int .i64 n] := ps_drew HQ.out
  clear hc
  refine wp_region_invF (β := Value × Value × Value × Value × Value × Value × Value × Value × Value × Value) (fun a0 xq => ((((((((((a0.put (some 76) (xq.1)).put (some 77) (xq.2.1)).put (some 78) (xq.2.2.1)).put (some 79) (xq.2.2.2.1)).put (some 80) (xq.2.2.2.2.1)).put (some 81) (xq.2.2.2.2.2.1)).put (some 82) (xq.2.2.2.2.2.2.1)).put (some 83) (xq.2.2.2.2.2.2.2.1)).put (some 84) (xq.2.2.2.2.2.2.2.2.1)).put (some 8) (xq.2.2.2.2.2.2.2.2.2))) ?fr76 (fun xq d w' => (BxA w' bx 35 #[.int .i64 K, .string ⟨A.toArray⟩, .slice ua bs.length uc, .int .i64 n]) ∧ ((d 0 = true → (xq.1) = .pointer (some ⟨sp, 0, none⟩)) ∧ (d 1 = true → (xq.2.1) = .pointer (some ⟨bx, 1, none⟩)) ∧ (d 2 = true → (xq.2.2.1) = .string ⟨A.toArray⟩) ∧ (d 4 = true → (xq.2.2.2.2.1) = .pointer (some ⟨rp, 0, none⟩)) ∧ (d 5 = true → (xq.2.2.2.2.2.1) = .pointer (some ⟨bx, 1, none⟩)) ∧ (d 6 = true → (xq.2.2.2.2.2.2.1) = .string ⟨A.toArray⟩)) ∧ ∃ j : Nat, j ≤ 4 ∧ (d 3 = decide (0 < j) ∧ d 7 = decide (1 < j) ∧ d 8 = decide (2 < j) ∧ d 9 = decide (3 < j)) ∧ ((j = 0 → Ps w0 w' sp dp rp (m * 4194304) (sd) (tr) bx 35 #[.int .i64 K, .string ⟨A.toArray⟩, .slice ua bs.length uc, .int .i64 n]) ∧ (j = 1 → (xq.2.2.2.1) = .int .i64 (c : Int) ∧ Ps w0 w' sp dp rp (m * 4194304) ((bdel sd A).2) (tr) bx 35 #[.int .i64 K, .string ⟨A.toArray⟩, .slice ua bs.length uc, .int .i64 n]) ∧ (j = 2 → (xq.2.2.2.1) = .int .i64 (c : Int) ∧ (xq.2.2.2.2.2.2.2.1) = .int .i64 (c : Int) ∧ Ps w0 w' sp dp rp (m * 4194304) ((bdel sd A).2) ((rdelB tr A).2) bx 35 #[.int .i64 K, .string ⟨A.toArray⟩, .slice ua bs.length uc, .int .i64 n]) ∧ (j = 3 → (xq.2.2.2.2.2.2.2.2.1) = .bool true ∧ Ps w0 w' sp dp rp (m * 4194304) ((bdel sd A).2) ((rdelB tr A).2) bx 35 #[.int .i64 K, .string ⟨A.toArray⟩, .slice ua bs.length uc, .int .i64 n]) ∧ (j = 4 → (xq.2.2.2.2.2.2.2.2.2) = .bool true ∧ Ps w0 w' sp dp rp (m * 4194304) ((bdel sd A).2) ((rdelB tr A).2) bx 35 #[.int .i64 K, .string ⟨A.toArray⟩, .slice ua bs.length uc, .int .i64 n]))) ?lay76 mixed (by kernel_rfl) ?h076 ?hs76 ?he76
  case lay76 =>
    intro xq
    simp only [Act.put, List.setIfInBounds_toArray, List.set_cons_zero, List.set_cons_succ]
    rfl
  case h076 =>
    refine ⟨(undef, undef, undef, undef, undef, undef, undef, undef, undef, .bool false), rfl, ?sig76, ⟨(fun h => by cases h), (fun h => by cases h), (fun h => by cases h), (fun h => by cases h), (fun h => by cases h), (fun h => by cases h)⟩, 0, Nat.zero_le _, ⟨rfl, rfl, rfl, rfl⟩, ?S076, (fun h => by cases h), (fun h => by cases h), (fun h => by cases h), (fun h => by cases h)⟩
    case sig76 => exact hSig0
    case S076 => exact fun _ => hS00
  case hs76 =>
    refine ⟨?_, ?_, ?_, ?_, ?_, ?_, ?_, ?_, ?_, ?_, trivial⟩
    · rintro d ⟨x76, x77, x78, x79, x80, x81, x82, x83, x84, x8⟩ w' hI hd hdp KQ hK
      dsimp only at hI
      obtain ⟨hS, ⟨f0, f1, f2, f4, f5, f6⟩, j, hj, ⟨dd3, dd7, dd8, dd9⟩, ⟨p0, p1, p2, p3, p4⟩⟩ := hI
      have HF : Hid _ := And.intro hS (And.intro (And.intro f0 (And.intro f1 (And.intro f2 (And.intro f4 (And.intro f5 f6))))) (And.intro hj (And.intro (And.intro dd3 (And.intro dd7 (And.intro dd8 dd9))) (And.intro p0 (And.intro p1 (And.intro p2 (And.intro p3 p4)))))))
      clear hS f0 f1 f2 f4 f5 f6 hj dd3 dd7 dd8 dd9 p0 p1 p2 p3 p4 hdp hd
      refine Opn.mk ?_
      dsimp only
      go_simp
      obtain ⟨hS, ⟨f0, f1, f2, f4, f5, f6⟩, hj, ⟨dd3, dd7, dd8, dd9⟩, ⟨p0, p1, p2, p3, p4⟩⟩ := HF.out
      exact hK.out (.pointer (some ⟨sp, 0, none⟩), x77, x78, x79, x80, x81, x82, x83, x84, x8) _ ⟨hS, ⟨(fun _ => rfl), (fun h => f1 (upd_ne h (by decide))), (fun h => f2 (upd_ne h (by decide))), (fun h => f4 (upd_ne h (by decide))), (fun h => f5 (upd_ne h (by decide))), (fun h => f6 (upd_ne h (by decide)))⟩, j, hj, ⟨((upd_no (by decide)).trans dd3), ((upd_no (by decide)).trans dd7), ((upd_no (by decide)).trans dd8), ((upd_no (by decide)).trans dd9)⟩, ⟨p0, p1, p2, p3, p4⟩⟩
    · rintro d ⟨x76, x77, x78, x79, x80, x81, x82, x83, x84, x8⟩ w' hI hd hdp KQ hK
      dsimp only at hI
      obtain ⟨hS, ⟨f0, f1, f2, f4, f5, f6⟩, j, hj, ⟨dd3, dd7, dd8, dd9⟩, ⟨p0, p1, p2, p3, p4⟩⟩ := hI
      have HF : Hid _ := And.intro hS (And.intro (And.intro f0 (And.intro f1 (And.intro f2 (And.intro f4 (And.intro f5 f6))))) (And.intro hj (And.intro (And.intro dd3 (And.intro dd7 (And.intro dd8 dd9))) (And.intro p0 (And.intro p1 (And.intro p2 (And.intro p3 p4)))))))
      clear hS f0 f1 f2 f4 f5 f6 hj dd3 dd7 dd8 dd9 p0 p1 p2 p3 p4 hdp hd
      refine Opn.mk ?_
      dsimp only
      go_simp
      obtain ⟨hS, ⟨f0, f1, f2, f4, f5, f6⟩, hj, ⟨dd3, dd7, dd8, dd9⟩, ⟨p0, p1, p2, p3, p4⟩⟩ := HF.out
      exact hK.out (x76, .pointer (some ⟨bx, 1, none⟩), x78, x79, x80, x81, x82, x83, x84, x8) _ ⟨hS, ⟨(fun h => f0 (upd_ne h (by decide))), (fun _ => rfl), (fun h => f2 (upd_ne h (by decide))), (fun h => f4 (upd_ne h (by decide))), (fun h => f5 (upd_ne h (by decide))), (fun h => f6 (upd_ne h (by decide)))⟩, j, hj, ⟨((upd_no (by decide)).trans dd3), ((upd_no (by decide)).trans dd7), ((upd_no (by decide)).trans dd8), ((upd_no (by decide)).trans dd9)⟩, ⟨p0, p1, p2, p3, p4⟩⟩
    · rintro d ⟨x76, x77, x78, x79, x80, x81, x82, x83, x84, x8⟩ w' hI hd hdp KQ hK
      dsimp only at hI
      obtain ⟨hS, ⟨f0, f1, f2, f4, f5, f6⟩, j, hj, ⟨dd3, dd7, dd8, dd9⟩, ⟨p0, p1, p2, p3, p4⟩⟩ := hI
      obtain rfl := f1 (hdp 1 (by decide +kernel))
      have cc : w'.cell? ⟨bx, 1, none⟩ = some (.string ⟨A.toArray⟩) := BxA.cell hS 1 _ rfl
      have HF : Hid _ := And.intro hS (And.intro (And.intro f0 (And.intro f1 (And.intro f2 (And.intro f4 (And.intro f5 f6))))) (And.intro hj (And.intro (And.intro dd3 (And.intro dd7 (And.intro dd8 dd9))) (And.intro p0 (And.intro p1 (And.intro p2 (And.intro p3 p4)))))))
      clear hS f0 f1 f2 f4 f5 f6 hj dd3 dd7 dd8 dd9 p0 p1 p2 p3 p4 hdp hd
      refine Opn.mk ?_
      dsimp only
      go_simp
      obtain ⟨hS, ⟨f0, f1, f2, f4, f5, f6⟩, hj, ⟨dd3, dd7, dd8, dd9⟩, ⟨p0, p1, p2, p3, p4⟩⟩ := HF.out
      exact hK.out (x76, .pointer (some ⟨bx, 1, none⟩), .string ⟨A.toArray⟩, x79, x80, x81, x82, x83, x84, x8) _ ⟨hS, ⟨(fun h => f0 (upd_ne h (by decide))), (fun _ => rfl), (fun _ => rfl), (fun h => f4 (upd_ne h (by decide))), (fun h => f5 (upd_ne h (by decide))), (fun h => f6 (upd_ne h (by decide)))⟩, j, hj, ⟨((upd_no (by decide)).trans dd3), ((upd_no (by decide)).trans dd7), ((upd_no (by decide)).trans dd8), ((upd_no (by decide)).trans dd9)⟩, ⟨p0, p1, p2, p3, p4⟩⟩
    · rintro d ⟨x76, x77, x78, x79, x80, x81, x82, x83, x84, x8⟩ w' hI hd hdp KQ hK
      dsimp only at hI
      obtain ⟨hS, ⟨f0, f1, f2, f4, f5, f6⟩, j, hj, ⟨dd3, dd7, dd8, dd9⟩, ⟨p0, p1, p2, p3, p4⟩⟩ := hI
      obtain rfl := f0 (hdp 0 (by decide +kernel))
      obtain rfl := f2 (hdp 2 (by decide +kernel))
      obtain rfl := ph_zero dd3 hd
      have s := p0 rfl
      clear p0 p1 p2 p3 p4 hj
      have kk := ps_del s A HN.out.1 HN.out.2.2.2.2.2.1
      rw [HC1.out] at kk
      have HG : Hid _ := And.intro hS s
      clear hS s
      have HF : Hid _ := And.intro (And.intro f0 (And.intro f1 (And.intro f2 (And.intro f4 (And.intro f5 f6))))) (And.intro dd3 (And.intro dd7 (And.intro dd8 dd9)))
      clear f0 f1 f2 f4 f5 f6 dd3 dd7 dd8 dd9 hdp hd
      refine Opn.mk ?_
      dsimp only
      go_simp
      go_wp2_with (first | (go_at_call 21; with_reducible refine kk.mono ?_; rintro e5 w5 ⟨rfl, G5⟩))
      obtain ⟨hS, s⟩ := HG.out
      obtain ⟨⟨f0, f1, f2, f4, f5, f6⟩, ⟨dd3, dd7, dd8, dd9⟩⟩ := HF.out
      refine hK.out (.pointer (some ⟨sp, 0, none⟩), x77, .string ⟨A.toArray⟩, .int .i64 (c : Int), x80, x81, x82, x83, x84, x8) _ ⟨?sg, ⟨(fun _ => rfl), (fun h => f1 (upd_ne h (by decide))), (fun _ => rfl), (fun h => f4 (upd_ne h (by decide))), (fun h => f5 (upd_ne h (by decide))), (fun h => f6 (upd_ne h (by decide)))⟩, 1, by decide, ⟨(by simp [upd]), ((upd_no (by decide)).trans (dd7.trans (by decide))), ((upd_no (by decide)).trans (dd8.trans (by decide))), ((upd_no (by decide)).trans (dd9.trans (by decide)))⟩, ⟨(fun h => absurd h (by decide)), (fun _ => ?new), (fun h => absurd h (by decide)), (fun h => absurd h (by decide)), (fun h => absurd h (by decide))⟩⟩
      case sg => exact G5.box
      case new =>
        exact ⟨rfl, G5⟩
    · rintro d ⟨x76, x77, x78, x79, x80, x81, x82, x83, x84, x8⟩ w' hI hd hdp KQ hK
      dsimp only at hI
      obtain ⟨hS, ⟨f0, f1, f2, f4, f5, f6⟩, j, hj, ⟨dd3, dd7, dd8, dd9⟩, ⟨p0, p1, p2, p3, p4⟩⟩ := hI
      have HF : Hid _ := And.intro hS (And.intro (And.intro f0 (And.intro f1 (And.intro f2 (And.intro f4 (And.intro f5 f6))))) (And.intro hj (And.intro (And.intro dd3 (And.intro dd7 (And.intro dd8 dd9))) (And.intro p0 (And.intro p1 (And.intro p2 (And.intro p3 p4)))))))
      clear hS f0 f1 f2 f4 f5 f6 hj dd3 dd7 dd8 dd9 p0 p1 p2 p3 p4 hdp hd
      refine Opn.mk ?_
      dsimp only
      go_simp
      obtain ⟨hS, ⟨f0, f1, f2, f4, f5, f6⟩, hj, ⟨dd3, dd7, dd8, dd9⟩, ⟨p0, p1, p2, p3, p4⟩⟩ := HF.out
      exact hK.out (x76, x77, x78, x79, .pointer (some ⟨rp, 0, none⟩), x81, x82, x83, x84, x8) _ ⟨hS, ⟨(fun h => f0 (upd_ne h (by decide))), (fun h => f1 (upd_ne h (by decide))), (fun h => f2 (upd_ne h (by decide))), (fun _ => rfl), (fun h => f5 (upd_ne h (by decide))), (fun h => f6 (upd_ne h (by decide)))⟩, j, hj, ⟨((upd_no (by decide)).trans dd3), ((upd_no (by decide)).trans dd7), ((upd_no (by decide)).trans dd8), ((upd_no (by decide)).trans dd9)⟩, ⟨p0, p1, p2, p3, p4⟩⟩
    · rintro d ⟨x76, x77, x78, x79, x80, x81, x82, x83, x84, x8⟩ w' hI hd hdp KQ hK
      dsimp only at hI
      obtain ⟨hS, ⟨f0, f1, f2, f4, f5, f6⟩, j, hj, ⟨dd3, dd7, dd8, dd9⟩, ⟨p0, p1, p2, p3, p4⟩⟩ := hI
      have HF : Hid _ := And.intro hS (And.intro (And.intro f0 (And.intro f1 (And.intro f2 (And.intro f4 (And.intro f5 f6))))) (And.intro hj (And.intro (And.intro dd3 (And.intro dd7 (And.intro dd8 dd9))) (And.intro p0 (And.intro p1 (And.intro p2 (And.intro p3 p4)))))))
      clear hS f0 f1 f2 f4 f5 f6 hj dd3 dd7 dd8 dd9 p0 p1 p2 p3 p4 hdp hd
      refine Opn.mk ?_
      dsimp only
      go_simp
      obtain ⟨hS, ⟨f0, f1, f2, f4, f5, f6⟩, hj, ⟨dd3, dd7, dd8, dd9⟩, ⟨p0, p1, p2, p3, p4⟩⟩ := HF.out
      exact hK.out (x76, x77, x78, x79, x80, .pointer (some ⟨bx, 1, none⟩), x82, x83, x84, x8) _ ⟨hS, ⟨(fun h => f0 (upd_ne h (by decide))), (fun h => f1 (upd_ne h (by decide))), (fun h => f2 (upd_ne h (by decide))), (fun h => f4 (upd_ne h (by decide))), (fun _ => rfl), (fun h => f6 (upd_ne h (by decide)))⟩, j, hj, ⟨((upd_no (by decide)).trans dd3), ((upd_no (by decide)).trans dd7), ((upd_no (by decide)).trans dd8), ((upd_no (by decide)).trans dd9)⟩, ⟨p0, p1, p2, p3, p4⟩⟩
    · rintro d ⟨x76, x77, x78, x79, x80, x81, x82, x83, x84, x8⟩ w' hI hd hdp KQ hK
      dsimp only at hI
      obtain ⟨hS, ⟨f0, f1, f2, f4, f5, f6⟩, j, hj, ⟨dd3, dd7, dd8, dd9⟩, ⟨p0, p1, p2, p3, p4⟩⟩ := hI
      obtain rfl := f5 (hdp 5 (by decide +kernel))
      have cc : w'.cell? ⟨bx, 1, none⟩ = some (.string ⟨A.toArray⟩) := BxA.cell hS 1 _ rfl
      have HF : Hid _ := And.intro hS (And.intro (And.intro f0 (And.intro f1 (And.intro f2 (And.intro f4 (And.intro f5 f6))))) (And.intro hj (And.intro (And.intro dd3 (And.intro dd7 (And.intro dd8 dd9))) (And.intro p0 (And.intro p1 (And.intro p2 (And.intro p3 p4)))))))
      clear hS f0 f1 f2 f4 f5 f6 hj dd3 dd7 dd8 dd9 p0 p1 p2 p3 p4 hdp hd
      refine Opn.mk ?_
      dsimp only
      go_simp
      obtain ⟨hS, ⟨f0, f1, f2, f4, f5, f6⟩, hj, ⟨dd3, dd7, dd8, dd9⟩, ⟨p0, p1, p2, p3, p4⟩⟩ := HF.out
      exact hK.out (x76, x77, x78, x79, x80, .pointer (some ⟨bx, 1, none⟩), .string ⟨A.toArray⟩, x83, x84, x8) _ ⟨hS, ⟨(fun h => f0 (upd_ne h (by decide))), (fun h => f1 (upd_ne h (by decide))), (fun h => f2 (upd_ne h (by decide))), (fun h => f4 (upd_ne h (by decide))), (fun _ => rfl), (fun _ => rfl)⟩, j, hj, ⟨((upd_no (by decide)).trans dd3), ((upd_no (by decide)).trans dd7), ((upd_no (by decide)).trans dd8), ((upd_no (by decide)).trans dd9)⟩, ⟨p0, p1, p2, p3, p4⟩⟩
    · rintro d ⟨x76, x77, x78, x79, x80, x81, x82, x83, x84, x8⟩ w' hI hd hdp KQ hK
      dsimp only at hI
      obtain ⟨hS, ⟨f0, f1, f2, f4, f5, f6⟩, j, hj, ⟨dd3, dd7, dd8, dd9⟩, ⟨p0, p1, p2, p3, p4⟩⟩ := hI
      obtain rfl := f4 (hdp 4 (by decide +kernel))
      obtain rfl := f6 (hdp 6 (by decide +kernel))
      obtain rfl := ph_eq (k := 0) dd7 hd dd3 (hdp 3 (by decide +kernel))
      have s := p1 rfl
      clear p0 p1 p2 p3 p4 hj
      obtain ⟨ea, s⟩ := s
      have kk := ps_rdel s A HN.out.1 HNN.out.1 HN.out.2.2.2.2.2.2.1 HN.out.2.2.2.1
      rw [HC2.out] at kk
      have HG : Hid _ := And.intro hS (And.intro ea s)
      clear hS s ea
      have HF : Hid _ := And.intro (And.intro f0 (And.intro f1 (And.intro f2 (And.intro f4 (And.intro f5 f6))))) (And.intro dd3 (And.intro dd7 (And.intro dd8 dd9)))
      clear f0 f1 f2 f4 f5 f6 dd3 dd7 dd8 dd9 hdp hd
      refine Opn.mk ?_
      dsimp only
      go_simp
      go_wp2_with (first | (go_at_call 36; with_reducible refine kk.mono ?_; rintro e5 w5 ⟨rfl, G5⟩))
      obtain ⟨hS, ea, s⟩ := HG.out
      obtain ⟨⟨f0, f1, f2, f4, f5, f6⟩, ⟨dd3, dd7, dd8, dd9⟩⟩ := HF.out
      refine hK.out (x76, x77, x78, x79, .pointer (some ⟨rp, 0, none⟩), x81, .string ⟨A.toArray⟩, .int .i64 (c : Int), x84, x8) _ ⟨?sg, ⟨(fun h => f0 (upd_ne h (by decide))), (fun h => f1 (upd_ne h (by decide))), (fun h => f2 (upd_ne h (by decide))), (fun _ => rfl), (fun h => f5 (upd_ne h (by decide))), (fun _ => rfl)⟩, 2, by decide, ⟨((upd_no (by decide)).trans (dd3.trans (by decide))), (by simp [upd]), ((upd_no (by decide)).trans (dd8.trans (by decide))), ((upd_no (by decide)).trans (dd9.trans (by decide)))⟩, ⟨(fun h => absurd h (by decide)), (fun h => absurd h (by decide)), (fun _ => ?new), (fun h => absurd h (by decide)), (fun h => absurd h (by decide))⟩⟩
      case sg => exact G5.box
      case new =>
        exact ⟨ea, rfl, G5⟩
    · rintro d ⟨x76, x77, x78, x79, x80, x81, x82, x83, x84, x8⟩ w' hI hd hdp KQ hK
      dsimp only at hI
      obtain ⟨hS, ⟨f0, f1, f2, f4, f5, f6⟩, j, hj, ⟨dd3, dd7, dd8, dd9⟩, ⟨p0, p1, p2, p3, p4⟩⟩ := hI
      obtain rfl := ph_eq (k := 1) dd8 hd dd7 (hdp 7 (by decide +kernel))
      have s := p2 rfl
      clear p0 p1 p2 p3 p4 hj
      obtain ⟨ea, eb, s⟩ := s
      subst ea
      subst eb
      have HG : Hid _ := And.intro hS s
      clear hS s
      have HF : Hid _ := And.intro (And.intro f0 (And.intro f1 (And.intro f2 (And.intro f4 (And.intro f5 f6))))) (And.intro dd3 (And.intro dd7 (And.intro dd8 dd9)))
      clear f0 f1 f2 f4 f5 f6 dd3 dd7 dd8 dd9 hdp hd
      refine Opn.mk ?_
      dsimp only
      go_simp
      obtain ⟨hS, s⟩ := HG.out
      obtain ⟨⟨f0, f1, f2, f4, f5, f6⟩, ⟨dd3, dd7, dd8, dd9⟩⟩ := HF.out
      refine hK.out (x76, x77, x78, .int .i64 (c : Int), x80, x81, x82, .int .i64 (c : Int), .bool true, x8) _ ⟨?sg, ⟨(fun h => f0 (upd_ne h (by decide))), (fun h => f1 (upd_ne h (by decide))), (fun h => f2 (upd_ne h (by decide))), (fun h => f4 (upd_ne h (by decide))), (fun h => f5 (upd_ne h (by decide))), (fun h => f6 (upd_ne h (by decide)))⟩, 3, by decide, ⟨((upd_no (by decide)).trans (dd3.trans (by decide))), ((upd_no (by decide)).trans (dd7.trans (by decide))), (by simp [upd]), ((upd_no (by decide)).trans (dd9.trans (by decide)))⟩, ⟨(fun h => absurd h (by decide)), (fun h => absurd h (by decide)), (fun h => absurd h (by decide)), (fun _ => ?new), (fun h => absurd h (by decide))⟩⟩
      case sg => exact hS
      case new =>
        exact ⟨rfl, s⟩
    · rintro d ⟨x76, x77, x78, x79, x80, x81, x82, x83, x84, x8⟩ w' hI hd hdp KQ hK
      dsimp only at hI
      obtain ⟨hS, ⟨f0, f1, f2, f4, f5, f6⟩, j, hj, ⟨dd3, dd7, dd8, dd9⟩, ⟨p0, p1, p2, p3, p4⟩⟩ := hI
      obtain rfl := ph_eq (k := 2) dd9 hd dd8 (hdp 8 (by decide +kernel))
      have s := p3 rfl
      clear p0 p1 p2 p3 p4 hj
      obtain ⟨ea, s⟩ := s
      subst ea
      have HG : Hid _ := And.intro hS s
      clear hS s
      have HF : Hid _ := And.intro (And.intro f0 (And.intro f1 (And.intro f2 (And.intro f4 (And.intro f5 f6))))) (And.intro dd3 (And.intro dd7 (And.intro dd8 dd9)))
      clear f0 f1 f2 f4 f5 f6 dd3 dd7 dd8 dd9 hdp hd
      refine Opn.mk ?_
      dsimp only
      go_simp
      obtain ⟨hS, s⟩ := HG.out
      obtain ⟨⟨f0, f1, f2, f4, f5, f6⟩, ⟨dd3, dd7, dd8, dd9⟩⟩ := HF.out
      refine hK.out (x76, x77, x78, x79, x80, x81, x82, x83, .bool true, .bool true) _ ⟨?sg, ⟨(fun h => f0 (upd_ne h (by decide))), (fun h => f1 (upd_ne h (by decide))), (fun h => f2 (upd_ne h (by decide))), (fun h => f4 (upd_ne h (by decide))), (fun h => f5 (upd_ne h (by decide))), (fun h => f6 (upd_ne h (by decide)))⟩, 4, by decide, ⟨((upd_no (by decide)).trans (dd3.trans (by decide))), ((upd_no (by decide)).trans (dd7.trans (by decide))), ((upd_no (by decide)).trans (dd8.trans (by decide))), (by simp [upd])⟩, ⟨(fun h => absurd h (by decide)), (fun h => absurd h (by decide)), (fun h => absurd h (by decide)), (fun h => absurd h (by decide)), (fun _ => ?new)⟩⟩
      case sg => exact hS
      case new =>
        exact ⟨rfl, s⟩
  case he76 =>
    rintro d ⟨x76, x77, x78, x79, x80, x81, x82, x83, x84, x8⟩ w' hall hI
    dsimp only at hI
    obtain ⟨hS, ⟨f0, f1, f2, f4, f5, f6⟩, j, hj, ⟨dd3, dd7, dd8, dd9⟩, ⟨p0, p1, p2, p3, p4⟩⟩ := hI
    obtain rfl := ph_end (k := 3) hj dd9 (hall 9 (by decide))
    have s := p4 rfl
    clear hall hj f0 f1 f2 f4 f5 f6 dd3 dd7 dd8 dd9 p0 p1 p2 p3 p4
    obtain ⟨ea, s⟩ := s
    subst ea
    have HG : Hid _ := s
    clear hS s
    dsimp only
    go_wp2_with fail
    go_ret
    exact ⟨rfl, ⟨_, _, Ps.qp (t0 := tr) HG.out (HNN.out.2.1) (HR.out.delB A).2 (rdelB_pt tr A).2 HB.out.1 (by rw [(rdelB_pt tr A).1]; exact HB.out.2.1) (nms_delB HM.out A)⟩⟩
end Go.Proofs.Ythegdhbmfojdaaa
