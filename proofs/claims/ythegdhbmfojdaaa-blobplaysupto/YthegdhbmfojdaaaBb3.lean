/- A call on both: Append. -/
import Derived.Test.YthegdhbmfojdaaaBb0
namespace Go.Proofs.Ythegdhbmfojdaaa
open Go.RowKit Go.Maps Go.Sort
set_option linter.unusedVariables false

def pf4 (k : Nat) : Str := [[98, 46], [116, 46], [], [116, 46, 122]].getD k []
theorem pf4_cell {w : World} {b k : Nat} (h : BxA w b 9 #[.string ⟨#[98, 46]⟩, .string ⟨#[116, 46]⟩, .string ⟨#[]⟩, .string ⟨#[116, 46, 122]⟩]) (hk : k < 4) : w.cell? ⟨b, k, none⟩ = some (.string ⟨(pf4 k).toArray⟩) := by
  rcases (by omega : k = 0 ∨ k = 1 ∨ k = 2 ∨ k = 3) with rfl | rfl | rfl | rfl
  · exact BxA.cell h 0 _ rfl
  · exact BxA.cell h 1 _ rfl
  · exact BxA.cell h 2 _ rfl
  · exact BxA.cell h 3 _ rfl
theorem pf4_len (k : Nat) (hk : k < 4) : (pf4 k).length ≤ 3 := by
  rcases (by omega : k = 0 ∨ k = 1 ∨ k = 2 ∨ k = 3) with rfl | rfl | rfl | rfl <;> decide
set_option maxRecDepth 100000 in
set_option maxHeartbeats 3200000 in
theorem both_10 (w0 w : World) (sp dp rp m : Nat) (sd : St) (tr : RSt) (K n : Int) (A : Str) (ua : Option Addr) (uc : Nat) (bs : Str) (h : Qp w0 w sp dp rp m sd tr) (hm : m < 100) (ok : OpM.Ok w0 1048576 ⟨K, A, .slice ua bs.length uc, bs, n⟩) (hk : absN K % 13 = 10) :
    Calls Try.prog 13 #[.pointer (some ⟨sp, 0, none⟩), .pointer (some ⟨dp, 0, none⟩), .pointer (some ⟨rp, 0, none⟩), .agg #[.int .i64 K, .string ⟨A.toArray⟩, .slice ua bs.length uc, .int .i64 n]] w fun e w' => e = .returned (.bool true) ∧ Bth w0 w' sp dp rp m := by
  have mixed : Try.prog.follows .mixedOrders = true := by kernel_rfl
  obtain ⟨W, hW⟩ : ∃ W, W = w.alloc (.cells #[.int .i64 K, .string ⟨A.toArray⟩, .slice ua bs.length uc, .int .i64 n] 35) := ⟨_, rfl⟩
  have hq := h.box hW
  have kAb := abs_any W K ok.k1 ok.k2
  have hab : (absN K : Int) % 13 = 10 := by omega
  have HR : Hid (Rel sd tr) := h.rel
  have HRX : Hid (∃ s, Rel s tr) := ⟨_, h.rel⟩
  have HM : Hid (NmS sd) := h.nm
  have HB : Hid (tr.n ≤ m * 1004 ∧ tr.part ≤ 9223372036854775807 ∧ m < 100) := ⟨h.n, h.part, hm⟩
  have HW : Hid (W = w.alloc (.cells #[.int .i64 K, .string ⟨A.toArray⟩, .slice ua bs.length uc, .int .i64 n] 35)) := hW
  have hA : A.length ≤ 1048576 := ok.a
  have HOK : Hid (OpM.Ok w0 1048576 ⟨K, A, .slice ua bs.length uc, bs, n⟩) := ok
  have hl : bs.length ≤ 1048576 := ok.rl
  have hop : sd.ops < 990000 := by have := h.n; have := h.rel.n; omega
  have hopt : tr.n < 990000 := by have := h.n; omega
  have HQ : Hid (Ps w0 W sp dp rp (m * 4194304) sd tr w.heap.size 35 #[.int .i64 K, .string ⟨A.toArray⟩, .slice ua bs.length uc, .int .i64 n]) := hq
  obtain ⟨bx, hbx⟩ : ∃ b, b = w.heap.size := ⟨_, rfl⟩
  rw [← hbx] at HQ
  have HN : Hid (A.length ≤ 2000000 ∧ sd.ops < 990000 ∧ tr.n < 990000 ∧ tr.part ≤ 9223372036854775807 ∧ Srt tr.fs ∧ sd.ops < 999000 ∧ tr.n < 999000 ∧ sd.ops < 1000000 ∧ tr.n < 1000000) := ⟨by omega, hop, hopt, h.part, h.rel.sp.srt, by omega, by omega, by omega, by omega⟩
  have HNN : Hid (m * 4194304 ≤ 140737488355328 ∧ m * 4194304 ≤ (m + 1) * 4194304 ∧ m * 4194304 + 1048584 ≤ 140737488355328 ∧ m * 4194304 + 1048584 + 1048584 ≤ 140737488355328 ∧ m * 4194304 + 1048584 + 1048584 ≤ (m + 1) * 4194304 ∧ m * 4194304 + bs.length ≤ 140737488355328 ∧ m * 4194304 + bs.length + bs.length ≤ 140737488355328 ∧ m * 4194304 + bs.length + bs.length ≤ (m + 1) * 4194304) := by apply hide; omega
  have c0 := HQ.out.box.cell 0 _ rfl
  clear hq h ok hW hm hA hl hop hopt hk
  go_enter Try.func13, Try.ntmps13
  go_wp2_with fail
  rw [← HW.out]
  go_wp2_with fail
  refine kAb.mono ?_
  rintro e wq ⟨rfl, rfl⟩
  clear kAb
  go_upto_region 25 with fail
  rw [← hbx]
  try rw [hab]
  clear hbx hab
  obtain ⟨q4, hq4⟩ : ∃ q, q = absN n % 4 := ⟨_, rfl⟩
  have hq4z : (absN n : Int) % 4 = (q4 : Int) := by omega
  have hq4t : Int.tmod (absN n : Int) 4 = (q4 : Int) := by rw [Int.tmod_eq_emod_of_nonneg (by omega)]; exact hq4z
  have hq4l : q4 < 4 := by omega
  have hq4i : (q4 : Int) < 4 := by omega
  have hq40 : (0 : Int) ≤ (q4 : Int) := by omega
  obtain ⟨P, hP⟩ : ∃ P, P = pf4 q4 := ⟨_, rfl⟩
  have hPl : P.length ≤ 3 := by rw [hP]; exact pf4_len q4 hq4l
  have HP : Hid (P = pf4 q4) := hP
  obtain ⟨X, hX⟩ : ∃ X, X = P ++ A := ⟨_, rfl⟩
  have HXL : Hid (X.length ≤ maxLen) := by apply hide; rw [hX, List.length_append]; have := HN.out.1; unfold maxLen; omega
  have HCAT : Hid (∀ w' : World, (Op.stringOp .add ⟨P.toArray⟩ ⟨A.toArray⟩).run Try.prog w' = .ok (.string ⟨X.toArray⟩) w') := fun w' => by rw [hX]; exact run_string_add_lists (P := Try.prog) w' P A (by omega) (by have := HN.out.1; omega)
  have hSig0 : BxA wq.drew bx 35 #[.int .i64 K, .string ⟨A.toArray⟩, .slice ua bs.length uc, .int .i64 n] := HQ.out.box
  have hS00 : Ps w0 wq.drew sp dp rp (m * 4194304) sd tr bx 35 #[.int .i64 K, .string ⟨A.toArray⟩, .slice ua bs.length uc, .int .i64 n] := ps_drew HQ.out
  clear hX hP c0 hq4 hPl
  refine wp_region_invF (β := Value × Value × Value × Value × Value × Value × Value × Value × Value × Value × Value) (fun a0 xq => (((((((((((a0.put (some 119) (xq.1)).put (some 120) (xq.2.1)).put (some 121) (xq.2.2.1)).put (some 122) (xq.2.2.2.1)).put (some 123) (xq.2.2.2.2.1)).put (some 124) (xq.2.2.2.2.2.1)).put (some 125) (xq.2.2.2.2.2.2.1)).put (some 126) (xq.2.2.2.2.2.2.2.1)).put (some 127) (xq.2.2.2.2.2.2.2.2.1)).put (some 128) (xq.2.2.2.2.2.2.2.2.2.1)).put (some 14) (xq.2.2.2.2.2.2.2.2.2.2))) ?fr119 (fun xq d w' => (BxA w' bx 35 #[.int .i64 K, .string ⟨A.toArray⟩, .slice ua bs.length uc, .int .i64 n]) ∧ ((d 1 = true → (xq.2.1) = .pointer (some ⟨bx, 3, none⟩)) ∧ (d 2 = true → (xq.2.2.1) = .int .i64 n) ∧ (d 3 = true → (xq.2.2.2.1) = .int .i64 (absN n : Int)) ∧ (d 4 = true → (xq.2.2.2.2.1) = .int .i64 (q4 : Int)) ∧ (d 7 = true → (xq.2.2.2.2.2.2.2.1) = .pointer (some ⟨bx, 1, none⟩)) ∧ (d 8 = true → (xq.2.2.2.2.2.2.2.2.1) = .string ⟨A.toArray⟩)) ∧ ∃ j : Nat, j ≤ 5 ∧ (d 0 = decide (0 < j) ∧ d 5 = decide (1 < j) ∧ d 6 = decide (2 < j) ∧ d 9 = decide (3 < j) ∧ d 10 = decide (4 < j)) ∧ ((j = 0 → Ps w0 w' sp dp rp (m * 4194304) (sd) (tr) bx 35 #[.int .i64 K, .string ⟨A.toArray⟩, .slice ua bs.length uc, .int .i64 n]) ∧ (j = 1 → ∃ b, (xq.1) = .slice (some ⟨b, 0, none⟩) 4 4 ∧ BxA w' b 9 #[.string ⟨#[98, 46]⟩, .string ⟨#[116, 46]⟩, .string ⟨#[]⟩, .string ⟨#[116, 46, 122]⟩] ∧ Ps w0 w' sp dp rp (m * 4194304) (sd) (tr) bx 35 #[.int .i64 K, .string ⟨A.toArray⟩, .slice ua bs.length uc, .int .i64 n]) ∧ (j = 2 → ∃ b, (xq.2.2.2.2.2.1) = .pointer (some ⟨b, q4, none⟩) ∧ BxA w' b 9 #[.string ⟨#[98, 46]⟩, .string ⟨#[116, 46]⟩, .string ⟨#[]⟩, .string ⟨#[116, 46, 122]⟩] ∧ Ps w0 w' sp dp rp (m * 4194304) (sd) (tr) bx 35 #[.int .i64 K, .string ⟨A.toArray⟩, .slice ua bs.length uc, .int .i64 n]) ∧ (j = 3 → (xq.2.2.2.2.2.2.1) = .string ⟨P.toArray⟩ ∧ Ps w0 w' sp dp rp (m * 4194304) (sd) (tr) bx 35 #[.int .i64 K, .string ⟨A.toArray⟩, .slice ua bs.length uc, .int .i64 n]) ∧ (j = 4 → (xq.2.2.2.2.2.2.2.2.2.1) = .string ⟨X.toArray⟩ ∧ Ps w0 w' sp dp rp (m * 4194304) (sd) (tr) bx 35 #[.int .i64 K, .string ⟨A.toArray⟩, .slice ua bs.length uc, .int .i64 n]) ∧ (j = 5 → (xq.2.2.2.2.2.2.2.2.2.2) = .string ⟨X.toArray⟩ ∧ Ps w0 w' sp dp rp (m * 4194304) (sd) (tr) bx 35 #[.int .i64 K, .string ⟨A.toArray⟩, .slice ua bs.length uc, .int .i64 n]))) ?lay119 mixed (by kernel_rfl) ?h0119 ?hs119 ?he119
  case lay119 =>
    intro xq
    simp only [Act.put, List.setIfInBounds_toArray, List.set_cons_zero, List.set_cons_succ]
    rfl
  case h0119 =>
    refine ⟨(undef, undef, undef, undef, undef, undef, undef, undef, undef, undef, undef), rfl, ?sig119, ⟨(fun h => by cases h), (fun h => by cases h), (fun h => by cases h), (fun h => by cases h), (fun h => by cases h), (fun h => by cases h)⟩, 0, Nat.zero_le _, ⟨rfl, rfl, rfl, rfl, rfl⟩, ?S0119, (fun h => by cases h), (fun h => by cases h), (fun h => by cases h), (fun h => by cases h), (fun h => by cases h)⟩
    case sig119 => exact hSig0
    case S0119 => exact fun _ => hS00
  case hs119 =>
    refine ⟨?_, ?_, ?_, ?_, ?_, ?_, ?_, ?_, ?_, ?_, ?_, trivial⟩
    · rintro d ⟨x119, x120, x121, x122, x123, x124, x125, x126, x127, x128, x14⟩ w' hI hd hdp KQ hK
      dsimp only at hI
      obtain ⟨hS, ⟨f1, f2, f3, f4, f7, f8⟩, j, hj, ⟨dd0, dd5, dd6, dd9, dd10⟩, ⟨p0, p1, p2, p3, p4, p5⟩⟩ := hI
      obtain rfl := ph_zero dd0 hd
      have s := p0 rfl
      clear p0 p1 p2 p3 p4 p5 hj
      have HG : Hid _ := And.intro hS s
      clear hS s
      have HF : Hid _ := And.intro (And.intro f1 (And.intro f2 (And.intro f3 (And.intro f4 (And.intro f7 f8))))) (And.intro dd0 (And.intro dd5 (And.intro dd6 (And.intro dd9 dd10))))
      clear f1 f2 f3 f4 f7 f8 dd0 dd5 dd6 dd9 dd10 hdp hd
      refine Opn.mk ?_
      dsimp only
      go_simp
      obtain ⟨hS, s⟩ := HG.out
      obtain ⟨⟨f1, f2, f3, f4, f7, f8⟩, ⟨dd0, dd5, dd6, dd9, dd10⟩⟩ := HF.out
      refine hK.out (.slice (some ⟨w'.heap.size, 0, none⟩) 4 4, x120, x121, x122, x123, x124, x125, x126, x127, x128, x14) _ ⟨?sg, ⟨(fun h => f1 (upd_ne h (by decide))), (fun h => f2 (upd_ne h (by decide))), (fun h => f3 (upd_ne h (by decide))), (fun h => f4 (upd_ne h (by decide))), (fun h => f7 (upd_ne h (by decide))), (fun h => f8 (upd_ne h (by decide)))⟩, 1, by decide, ⟨(by simp [upd]), ((upd_no (by decide)).trans (dd5.trans (by decide))), ((upd_no (by decide)).trans (dd6.trans (by decide))), ((upd_no (by decide)).trans (dd9.trans (by decide))), ((upd_no (by decide)).trans (dd10.trans (by decide)))⟩, ⟨(fun h => absurd h (by decide)), (fun _ => ?new), (fun h => absurd h (by decide)), (fun h => absurd h (by decide)), (fun h => absurd h (by decide)), (fun h => absurd h (by decide))⟩⟩
      case sg => exact (s.below ((Below.refl _ _).alloc (Nat.le_refl _) _)).box
      case new =>
        exact ⟨_, rfl, BxA.new _ _ _, s.below ((Below.refl _ _).alloc (Nat.le_refl _) _)⟩
    · rintro d ⟨x119, x120, x121, x122, x123, x124, x125, x126, x127, x128, x14⟩ w' hI hd hdp KQ hK
      dsimp only at hI
      obtain ⟨hS, ⟨f1, f2, f3, f4, f7, f8⟩, j, hj, ⟨dd0, dd5, dd6, dd9, dd10⟩, ⟨p0, p1, p2, p3, p4, p5⟩⟩ := hI
      have HF : Hid _ := And.intro hS (And.intro (And.intro f1 (And.intro f2 (And.intro f3 (And.intro f4 (And.intro f7 f8))))) (And.intro hj (And.intro (And.intro dd0 (And.intro dd5 (And.intro dd6 (And.intro dd9 dd10)))) (And.intro p0 (And.intro p1 (And.intro p2 (And.intro p3 (And.intro p4 p5))))))))
      clear hS f1 f2 f3 f4 f7 f8 hj dd0 dd5 dd6 dd9 dd10 p0 p1 p2 p3 p4 p5 hdp hd
      refine Opn.mk ?_
      dsimp only
      go_simp
      obtain ⟨hS, ⟨f1, f2, f3, f4, f7, f8⟩, hj, ⟨dd0, dd5, dd6, dd9, dd10⟩, ⟨p0, p1, p2, p3, p4, p5⟩⟩ := HF.out
      exact hK.out (x119, .pointer (some ⟨bx, 3, none⟩), x121, x122, x123, x124, x125, x126, x127, x128, x14) _ ⟨hS, ⟨(fun _ => rfl), (fun h => f2 (upd_ne h (by decide))), (fun h => f3 (upd_ne h (by decide))), (fun h => f4 (upd_ne h (by decide))), (fun h => f7 (upd_ne h (by decide))), (fun h => f8 (upd_ne h (by decide)))⟩, j, hj, ⟨((upd_no (by decide)).trans dd0), ((upd_no (by decide)).trans dd5), ((upd_no (by decide)).trans dd6), ((upd_no (by decide)).trans dd9), ((upd_no (by decide)).trans dd10)⟩, ⟨p0, p1, p2, p3, p4, p5⟩⟩
    · rintro d ⟨x119, x120, x121, x122, x123, x124, x125, x126, x127, x128, x14⟩ w' hI hd hdp KQ hK
      dsimp only at hI
      obtain ⟨hS, ⟨f1, f2, f3, f4, f7, f8⟩, j, hj, ⟨dd0, dd5, dd6, dd9, dd10⟩, ⟨p0, p1, p2, p3, p4, p5⟩⟩ := hI
      obtain rfl := f1 (hdp 1 (by decide +kernel))
      have cc : w'.cell? ⟨bx, 3, none⟩ = some (.int .i64 n) := BxA.cell hS 3 _ rfl
      have HF : Hid _ := And.intro hS (And.intro (And.intro f1 (And.intro f2 (And.intro f3 (And.intro f4 (And.intro f7 f8))))) (And.intro hj (And.intro (And.intro dd0 (And.intro dd5 (And.intro dd6 (And.intro dd9 dd10)))) (And.intro p0 (And.intro p1 (And.intro p2 (And.intro p3 (And.intro p4 p5))))))))
      clear hS f1 f2 f3 f4 f7 f8 hj dd0 dd5 dd6 dd9 dd10 p0 p1 p2 p3 p4 p5 hdp hd
      refine Opn.mk ?_
      dsimp only
      go_simp
      obtain ⟨hS, ⟨f1, f2, f3, f4, f7, f8⟩, hj, ⟨dd0, dd5, dd6, dd9, dd10⟩, ⟨p0, p1, p2, p3, p4, p5⟩⟩ := HF.out
      exact hK.out (x119, .pointer (some ⟨bx, 3, none⟩), .int .i64 n, x122, x123, x124, x125, x126, x127, x128, x14) _ ⟨hS, ⟨(fun _ => rfl), (fun _ => rfl), (fun h => f3 (upd_ne h (by decide))), (fun h => f4 (upd_ne h (by decide))), (fun h => f7 (upd_ne h (by decide))), (fun h => f8 (upd_ne h (by decide)))⟩, j, hj, ⟨((upd_no (by decide)).trans dd0), ((upd_no (by decide)).trans dd5), ((upd_no (by decide)).trans dd6), ((upd_no (by decide)).trans dd9), ((upd_no (by decide)).trans dd10)⟩, ⟨p0, p1, p2, p3, p4, p5⟩⟩
    · rintro d ⟨x119, x120, x121, x122, x123, x124, x125, x126, x127, x128, x14⟩ w' hI hd hdp KQ hK
      dsimp only at hI
      obtain ⟨hS, ⟨f1, f2, f3, f4, f7, f8⟩, j, hj, ⟨dd0, dd5, dd6, dd9, dd10⟩, ⟨p0, p1, p2, p3, p4, p5⟩⟩ := hI
      obtain rfl := f2 (hdp 2 (by decide +kernel))
      have kA := abs_any w' n HOK.out.n1 HOK.out.n2
      have HF : Hid _ := And.intro hS (And.intro (And.intro f1 (And.intro f2 (And.intro f3 (And.intro f4 (And.intro f7 f8))))) (And.intro hj (And.intro (And.intro dd0 (And.intro dd5 (And.intro dd6 (And.intro dd9 dd10)))) (And.intro p0 (And.intro p1 (And.intro p2 (And.intro p3 (And.intro p4 p5))))))))
      clear hS f1 f2 f3 f4 f7 f8 hj dd0 dd5 dd6 dd9 dd10 p0 p1 p2 p3 p4 p5 hdp hd
      refine Opn.mk ?_
      dsimp only
      go_simp
      go_wp2_with (first | (go_at_call 18; with_reducible refine kA.mono ?_; rintro e5 w5 ⟨rfl, rfl⟩))
      obtain ⟨hS, ⟨f1, f2, f3, f4, f7, f8⟩, hj, ⟨dd0, dd5, dd6, dd9, dd10⟩, ⟨p0, p1, p2, p3, p4, p5⟩⟩ := HF.out
      exact hK.out (x119, x120, .int .i64 n, .int .i64 (absN n : Int), x123, x124, x125, x126, x127, x128, x14) _ ⟨hS, ⟨(fun h => f1 (upd_ne h (by decide))), (fun _ => rfl), (fun _ => rfl), (fun h => f4 (upd_ne h (by decide))), (fun h => f7 (upd_ne h (by decide))), (fun h => f8 (upd_ne h (by decide)))⟩, j, hj, ⟨((upd_no (by decide)).trans dd0), ((upd_no (by decide)).trans dd5), ((upd_no (by decide)).trans dd6), ((upd_no (by decide)).trans dd9), ((upd_no (by decide)).trans dd10)⟩, ⟨p0, p1, p2, p3, p4, p5⟩⟩
    · rintro d ⟨x119, x120, x121, x122, x123, x124, x125, x126, x127, x128, x14⟩ w' hI hd hdp KQ hK
      dsimp only at hI
      obtain ⟨hS, ⟨f1, f2, f3, f4, f7, f8⟩, j, hj, ⟨dd0, dd5, dd6, dd9, dd10⟩, ⟨p0, p1, p2, p3, p4, p5⟩⟩ := hI
      obtain rfl := f3 (hdp 3 (by decide +kernel))
      have HF : Hid _ := And.intro hS (And.intro (And.intro f1 (And.intro f2 (And.intro f3 (And.intro f4 (And.intro f7 f8))))) (And.intro hj (And.intro (And.intro dd0 (And.intro dd5 (And.intro dd6 (And.intro dd9 dd10)))) (And.intro p0 (And.intro p1 (And.intro p2 (And.intro p3 (And.intro p4 p5))))))))
      clear hS f1 f2 f3 f4 f7 f8 hj dd0 dd5 dd6 dd9 dd10 p0 p1 p2 p3 p4 p5 hdp hd
      refine Opn.mk ?_
      dsimp only
      go_simp
      obtain ⟨hS, ⟨f1, f2, f3, f4, f7, f8⟩, hj, ⟨dd0, dd5, dd6, dd9, dd10⟩, ⟨p0, p1, p2, p3, p4, p5⟩⟩ := HF.out
      exact hK.out (x119, x120, x121, .int .i64 (absN n : Int), .int .i64 (q4 : Int), x124, x125, x126, x127, x128, x14) _ ⟨hS, ⟨(fun h => f1 (upd_ne h (by decide))), (fun h => f2 (upd_ne h (by decide))), (fun _ => rfl), (fun _ => rfl), (fun h => f7 (upd_ne h (by decide))), (fun h => f8 (upd_ne h (by decide)))⟩, j, hj, ⟨((upd_no (by decide)).trans dd0), ((upd_no (by decide)).trans dd5), ((upd_no (by decide)).trans dd6), ((upd_no (by decide)).trans dd9), ((upd_no (by decide)).trans dd10)⟩, ⟨p0, p1, p2, p3, p4, p5⟩⟩
    · rintro d ⟨x119, x120, x121, x122, x123, x124, x125, x126, x127, x128, x14⟩ w' hI hd hdp KQ hK
      dsimp only at hI
      obtain ⟨hS, ⟨f1, f2, f3, f4, f7, f8⟩, j, hj, ⟨dd0, dd5, dd6, dd9, dd10⟩, ⟨p0, p1, p2, p3, p4, p5⟩⟩ := hI
      obtain rfl := f4 (hdp 4 (by decide +kernel))
      obtain rfl := ph_eq (k := 0) dd5 hd dd0 (hdp 0 (by decide +kernel))
      have s := p1 rfl
      clear p0 p1 p2 p3 p4 p5 hj
      obtain ⟨b, ea, hx, s⟩ := s
      subst ea
      have HG : Hid _ := And.intro hS (And.intro hx s)
      clear hS s hx
      have HF : Hid _ := And.intro (And.intro f1 (And.intro f2 (And.intro f3 (And.intro f4 (And.intro f7 f8))))) (And.intro dd0 (And.intro dd5 (And.intro dd6 (And.intro dd9 dd10))))
      clear f1 f2 f3 f4 f7 f8 dd0 dd5 dd6 dd9 dd10 hdp hd
      refine Opn.mk ?_
      dsimp only
      go_simp
      obtain ⟨hS, hx, s⟩ := HG.out
      obtain ⟨⟨f1, f2, f3, f4, f7, f8⟩, ⟨dd0, dd5, dd6, dd9, dd10⟩⟩ := HF.out
      refine hK.out (.slice (some ⟨b, 0, none⟩) 4 4, x120, x121, x122, .int .i64 (q4 : Int), .pointer (some ⟨b, q4, none⟩), x125, x126, x127, x128, x14) _ ⟨?sg, ⟨(fun h => f1 (upd_ne h (by decide))), (fun h => f2 (upd_ne h (by decide))), (fun h => f3 (upd_ne h (by decide))), (fun _ => rfl), (fun h => f7 (upd_ne h (by decide))), (fun h => f8 (upd_ne h (by decide)))⟩, 2, by decide, ⟨((upd_no (by decide)).trans (dd0.trans (by decide))), (by simp [upd]), ((upd_no (by decide)).trans (dd6.trans (by decide))), ((upd_no (by decide)).trans (dd9.trans (by decide))), ((upd_no (by decide)).trans (dd10.trans (by decide)))⟩, ⟨(fun h => absurd h (by decide)), (fun h => absurd h (by decide)), (fun _ => ?new), (fun h => absurd h (by decide)), (fun h => absurd h (by decide)), (fun h => absurd h (by decide))⟩⟩
      case sg => exact hS
      case new =>
        exact ⟨b, rfl, hx, s⟩
    · rintro d ⟨x119, x120, x121, x122, x123, x124, x125, x126, x127, x128, x14⟩ w' hI hd hdp KQ hK
      dsimp only at hI
      obtain ⟨hS, ⟨f1, f2, f3, f4, f7, f8⟩, j, hj, ⟨dd0, dd5, dd6, dd9, dd10⟩, ⟨p0, p1, p2, p3, p4, p5⟩⟩ := hI
      obtain rfl := ph_eq (k := 1) dd6 hd dd5 (hdp 5 (by decide +kernel))
      have s := p2 rfl
      clear p0 p1 p2 p3 p4 p5 hj
      obtain ⟨b, ea, hx, s⟩ := s
      subst ea
      have cc := pf4_cell hx hq4l
      rw [← HP.out] at cc
      have HG : Hid _ := And.intro hS s
      clear hS s hx
      have HF : Hid _ := And.intro (And.intro f1 (And.intro f2 (And.intro f3 (And.intro f4 (And.intro f7 f8))))) (And.intro dd0 (And.intro dd5 (And.intro dd6 (And.intro dd9 dd10))))
      clear f1 f2 f3 f4 f7 f8 dd0 dd5 dd6 dd9 dd10 hdp hd
      refine Opn.mk ?_
      dsimp only
      go_simp
      obtain ⟨hS, s⟩ := HG.out
      obtain ⟨⟨f1, f2, f3, f4, f7, f8⟩, ⟨dd0, dd5, dd6, dd9, dd10⟩⟩ := HF.out
      refine hK.out (x119, x120, x121, x122, x123, .pointer (some ⟨b, q4, none⟩), .string ⟨P.toArray⟩, x126, x127, x128, x14) _ ⟨?sg, ⟨(fun h => f1 (upd_ne h (by decide))), (fun h => f2 (upd_ne h (by decide))), (fun h => f3 (upd_ne h (by decide))), (fun h => f4 (upd_ne h (by decide))), (fun h => f7 (upd_ne h (by decide))), (fun h => f8 (upd_ne h (by decide)))⟩, 3, by decide, ⟨((upd_no (by decide)).trans (dd0.trans (by decide))), ((upd_no (by decide)).trans (dd5.trans (by decide))), (by simp [upd]), ((upd_no (by decide)).trans (dd9.trans (by decide))), ((upd_no (by decide)).trans (dd10.trans (by decide)))⟩, ⟨(fun h => absurd h (by decide)), (fun h => absurd h (by decide)), (fun h => absurd h (by decide)), (fun _ => ?new), (fun h => absurd h (by decide)), (fun h => absurd h (by decide))⟩⟩
      case sg => exact hS
      case new =>
        exact ⟨rfl, s⟩
    · rintro d ⟨x119, x120, x121, x122, x123, x124, x125, x126, x127, x128, x14⟩ w' hI hd hdp KQ hK
      dsimp only at hI
      obtain ⟨hS, ⟨f1, f2, f3, f4, f7, f8⟩, j, hj, ⟨dd0, dd5, dd6, dd9, dd10⟩, ⟨p0, p1, p2, p3, p4, p5⟩⟩ := hI
      have HF : Hid _ := And.intro hS (And.intro (And.intro f1 (And.intro f2 (And.intro f3 (And.intro f4 (And.intro f7 f8))))) (And.intro hj (And.intro (And.intro dd0 (And.intro dd5 (And.intro dd6 (And.intro dd9 dd10)))) (And.intro p0 (And.intro p1 (And.intro p2 (And.intro p3 (And.intro p4 p5))))))))
      clear hS f1 f2 f3 f4 f7 f8 hj dd0 dd5 dd6 dd9 dd10 p0 p1 p2 p3 p4 p5 hdp hd
      refine Opn.mk ?_
      dsimp only
      go_simp
      obtain ⟨hS, ⟨f1, f2, f3, f4, f7, f8⟩, hj, ⟨dd0, dd5, dd6, dd9, dd10⟩, ⟨p0, p1, p2, p3, p4, p5⟩⟩ := HF.out
      exact hK.out (x119, x120, x121, x122, x123, x124, x125, .pointer (some ⟨bx, 1, none⟩), x127, x128, x14) _ ⟨hS, ⟨(fun h => f1 (upd_ne h (by decide))), (fun h => f2 (upd_ne h (by decide))), (fun h => f3 (upd_ne h (by decide))), (fun h => f4 (upd_ne h (by decide))), (fun _ => rfl), (fun h => f8 (upd_ne h (by decide)))⟩, j, hj, ⟨((upd_no (by decide)).trans dd0), ((upd_no (by decide)).trans dd5), ((upd_no (by decide)).trans dd6), ((upd_no (by decide)).trans dd9), ((upd_no (by decide)).trans dd10)⟩, ⟨p0, p1, p2, p3, p4, p5⟩⟩
    · rintro d ⟨x119, x120, x121, x122, x123, x124, x125, x126, x127, x128, x14⟩ w' hI hd hdp KQ hK
      dsimp only at hI
      obtain ⟨hS, ⟨f1, f2, f3, f4, f7, f8⟩, j, hj, ⟨dd0, dd5, dd6, dd9, dd10⟩, ⟨p0, p1, p2, p3, p4, p5⟩⟩ := hI
      obtain rfl := f7 (hdp 7 (by decide +kernel))
      have cc : w'.cell? ⟨bx, 1, none⟩ = some (.string ⟨A.toArray⟩) := BxA.cell hS 1 _ rfl
      have HF : Hid _ := And.intro hS (And.intro (And.intro f1 (And.intro f2 (And.intro f3 (And.intro f4 (And.intro f7 f8))))) (And.intro hj (And.intro (And.intro dd0 (And.intro dd5 (And.intro dd6 (And.intro dd9 dd10)))) (And.intro p0 (And.intro p1 (And.intro p2 (And.intro p3 (And.intro p4 p5))))))))
      clear hS f1 f2 f3 f4 f7 f8 hj dd0 dd5 dd6 dd9 dd10 p0 p1 p2 p3 p4 p5 hdp hd
      refine Opn.mk ?_
      dsimp only
      go_simp
      obtain ⟨hS, ⟨f1, f2, f3, f4, f7, f8⟩, hj, ⟨dd0, dd5, dd6, dd9, dd10⟩, ⟨p0, p1, p2, p3, p4, p5⟩⟩ := HF.out
      exact hK.out (x119, x120, x121, x122, x123, x124, x125, .pointer (some ⟨bx, 1, none⟩), .string ⟨A.toArray⟩, x128, x14) _ ⟨hS, ⟨(fun h => f1 (upd_ne h (by decide))), (fun h => f2 (upd_ne h (by decide))), (fun h => f3 (upd_ne h (by decide))), (fun h => f4 (upd_ne h (by decide))), (fun _ => rfl), (fun _ => rfl)⟩, j, hj, ⟨((upd_no (by decide)).trans dd0), ((upd_no (by decide)).trans dd5), ((upd_no (by decide)).trans dd6), ((upd_no (by decide)).trans dd9), ((upd_no (by decide)).trans dd10)⟩, ⟨p0, p1, p2, p3, p4, p5⟩⟩
    · rintro d ⟨x119, x120, x121, x122, x123, x124, x125, x126, x127, x128, x14⟩ w' hI hd hdp KQ hK
      dsimp only at hI
      obtain ⟨hS, ⟨f1, f2, f3, f4, f7, f8⟩, j, hj, ⟨dd0, dd5, dd6, dd9, dd10⟩, ⟨p0, p1, p2, p3, p4, p5⟩⟩ := hI
      obtain rfl := f8 (hdp 8 (by decide +kernel))
      obtain rfl := ph_eq (k := 2) dd9 hd dd6 (hdp 6 (by decide +kernel))
      have s := p3 rfl
      clear p0 p1 p2 p3 p4 p5 hj
      obtain ⟨ea, s⟩ := s
      subst ea
      have hcat := HCAT.out w'
      have HG : Hid _ := And.intro hS s
      clear hS s
      have HF : Hid _ := And.intro (And.intro f1 (And.intro f2 (And.intro f3 (And.intro f4 (And.intro f7 f8))))) (And.intro dd0 (And.intro dd5 (And.intro dd6 (And.intro dd9 dd10))))
      clear f1 f2 f3 f4 f7 f8 dd0 dd5 dd6 dd9 dd10 hdp hd
      refine Opn.mk ?_
      dsimp only
      go_simp
      obtain ⟨hS, s⟩ := HG.out
      obtain ⟨⟨f1, f2, f3, f4, f7, f8⟩, ⟨dd0, dd5, dd6, dd9, dd10⟩⟩ := HF.out
      refine hK.out (x119, x120, x121, x122, x123, x124, .string ⟨P.toArray⟩, x126, .string ⟨A.toArray⟩, .string ⟨X.toArray⟩, x14) _ ⟨?sg, ⟨(fun h => f1 (upd_ne h (by decide))), (fun h => f2 (upd_ne h (by decide))), (fun h => f3 (upd_ne h (by decide))), (fun h => f4 (upd_ne h (by decide))), (fun h => f7 (upd_ne h (by decide))), (fun _ => rfl)⟩, 4, by decide, ⟨((upd_no (by decide)).trans (dd0.trans (by decide))), ((upd_no (by decide)).trans (dd5.trans (by decide))), ((upd_no (by decide)).trans (dd6.trans (by decide))), (by simp [upd]), ((upd_no (by decide)).trans (dd10.trans (by decide)))⟩, ⟨(fun h => absurd h (by decide)), (fun h => absurd h (by decide)), (fun h => absurd h (by decide)), (fun h => absurd h (by decide)), (fun _ => ?new), (fun h => absurd h (by decide))⟩⟩
      case sg => exact hS
      case new =>
        exact ⟨rfl, s⟩
    · rintro d ⟨x119, x120, x121, x122, x123, x124, x125, x126, x127, x128, x14⟩ w' hI hd hdp KQ hK
      dsimp only at hI
      obtain ⟨hS, ⟨f1, f2, f3, f4, f7, f8⟩, j, hj, ⟨dd0, dd5, dd6, dd9, dd10⟩, ⟨p0, p1, p2, p3, p4, p5⟩⟩ := hI
      obtain rfl := ph_eq (k := 3) dd10 hd dd9 (hdp 9 (by decide +kernel))
      have s := p4 rfl
      clear p0 p1 p2 p3 p4 p5 hj
      obtain ⟨ea, s⟩ := s
      subst ea
      have HG : Hid _ := And.intro hS s
      clear hS s
      have HF : Hid _ := And.intro (And.intro f1 (And.intro f2 (And.intro f3 (And.intro f4 (And.intro f7 f8))))) (And.intro dd0 (And.intro dd5 (And.intro dd6 (And.intro dd9 dd10))))
      clear f1 f2 f3 f4 f7 f8 dd0 dd5 dd6 dd9 dd10 hdp hd
      refine Opn.mk ?_
      dsimp only
      go_simp
      obtain ⟨hS, s⟩ := HG.out
      obtain ⟨⟨f1, f2, f3, f4, f7, f8⟩, ⟨dd0, dd5, dd6, dd9, dd10⟩⟩ := HF.out
      refine hK.out (x119, x120, x121, x122, x123, x124, x125, x126, x127, .string ⟨X.toArray⟩, .string ⟨X.toArray⟩) _ ⟨?sg, ⟨(fun h => f1 (upd_ne h (by decide))), (fun h => f2 (upd_ne h (by decide))), (fun h => f3 (upd_ne h (by decide))), (fun h => f4 (upd_ne h (by decide))), (fun h => f7 (upd_ne h (by decide))), (fun h => f8 (upd_ne h (by decide)))⟩, 5, by decide, ⟨((upd_no (by decide)).trans (dd0.trans (by decide))), ((upd_no (by decide)).trans (dd5.trans (by decide))), ((upd_no (by decide)).trans (dd6.trans (by decide))), ((upd_no (by decide)).trans (dd9.trans (by decide))), (by simp [upd])⟩, ⟨(fun h => absurd h (by decide)), (fun h => absurd h (by decide)), (fun h => absurd h (by decide)), (fun h => absurd h (by decide)), (fun h => absurd h (by decide)), (fun _ => ?new)⟩⟩
      case sg => exact hS
      case new =>
        exact ⟨rfl, s⟩
  case he119 =>
    rintro d ⟨x119, x120, x121, x122, x123, x124, x125, x126, x127, x128, x14⟩ w' hall hI
    dsimp only at hI
    obtain ⟨hS, ⟨f1, f2, f3, f4, f7, f8⟩, j, hj, ⟨dd0, dd5, dd6, dd9, dd10⟩, ⟨p0, p1, p2, p3, p4, p5⟩⟩ := hI
    obtain rfl := ph_end (k := 4) hj dd10 (hall 10 (by decide))
    have s := p5 rfl
    clear hall hj f1 f2 f3 f4 f7 f8 dd0 dd5 dd6 dd9 dd10 p0 p1 p2 p3 p4 p5
    obtain ⟨ea, s⟩ := s
    subst ea
    have HQ5 : Hid _ := s
    clear hS s hSig0 hS00 hq4z hq4t hq4l hq4i hq40
    dsimp only
    go_upto_region 26 with fail
    obtain ⟨c, hc⟩ : ∃ c, c = (sd.append X bs).1 := ⟨_, rfl⟩
    have HC1 : Hid ((sd.append X bs).1 = c) := hc.symm
    have HC2 : Hid ((rapp tr X bs).1 = c) := by apply hide; rw [hc]; exact (HR.out.append X bs).1.symm
    have hSig0 : BxA w'.drew bx 35 #[.int .i64 K, .string ⟨A.toArray⟩, .slice ua bs.length uc, .int .i64 n] := HQ5.out.box
    have hS00 : Ps w0 w'.drew sp dp rp (m * 4194304) sd tr bx 35 #[.int .i64 K, .string ⟨A.toArray⟩, .slice ua bs.length uc, .int .i64 n] := ps_drew HQ5.out
    clear hc
    refine wp_region_invF (β := Value × Value × Value × Value × Value × Value × Value × Value × Value × Value × Value × Value) (fun a0 xq => ((((((((((((a0.put (some 129) (xq.1)).put (some 130) (xq.2.1)).put (some 131) (xq.2.2.1)).put (some 132) (xq.2.2.2.1)).put (some 133) (xq.2.2.2.2.1)).put (some 134) (xq.2.2.2.2.2.1)).put (some 135) (xq.2.2.2.2.2.2.1)).put (some 136) (xq.2.2.2.2.2.2.2.1)).put (some 137) (xq.2.2.2.2.2.2.2.2.1)).put (some 138) (xq.2.2.2.2.2.2.2.2.2.1)).put (some 139) (xq.2.2.2.2.2.2.2.2.2.2.1)).put (some 8) (xq.2.2.2.2.2.2.2.2.2.2.2))) ?fr129 (fun xq d w' => (BxA w' bx 35 #[.int .i64 K, .string ⟨A.toArray⟩, .slice ua bs.length uc, .int .i64 n]) ∧ ((d 0 = true → (xq.1) = .pointer (some ⟨dp, 0, none⟩)) ∧ (d 1 = true → (xq.2.1) = .string ⟨X.toArray⟩) ∧ (d 2 = true → (xq.2.2.1) = .pointer (some ⟨bx, 2, none⟩)) ∧ (d 3 = true → (xq.2.2.2.1) = .slice ua bs.length uc) ∧ (d 5 = true → (xq.2.2.2.2.2.1) = .pointer (some ⟨rp, 0, none⟩)) ∧ (d 6 = true → (xq.2.2.2.2.2.2.1) = .string ⟨X.toArray⟩) ∧ (d 7 = true → (xq.2.2.2.2.2.2.2.1) = .pointer (some ⟨bx, 2, none⟩)) ∧ (d 8 = true → (xq.2.2.2.2.2.2.2.2.1) = .slice ua bs.length uc)) ∧ ∃ j : Nat, j ≤ 4 ∧ (d 4 = decide (0 < j) ∧ d 9 = decide (1 < j) ∧ d 10 = decide (2 < j) ∧ d 11 = decide (3 < j)) ∧ ((j = 0 → Ps w0 w' sp dp rp (m * 4194304) (sd) (tr) bx 35 #[.int .i64 K, .string ⟨A.toArray⟩, .slice ua bs.length uc, .int .i64 n]) ∧ (j = 1 → (xq.2.2.2.2.1) = .int .i64 (c : Int) ∧ Ps w0 w' sp dp rp (m * 4194304 + bs.length) ((sd.append X bs).2) (tr) bx 35 #[.int .i64 K, .string ⟨A.toArray⟩, .slice ua bs.length uc, .int .i64 n]) ∧ (j = 2 → (xq.2.2.2.2.1) = .int .i64 (c : Int) ∧ (xq.2.2.2.2.2.2.2.2.2.1) = .int .i64 (c : Int) ∧ Ps w0 w' sp dp rp (m * 4194304 + bs.length + bs.length) ((sd.append X bs).2) ((rapp tr X bs).2) bx 35 #[.int .i64 K, .string ⟨A.toArray⟩, .slice ua bs.length uc, .int .i64 n]) ∧ (j = 3 → (xq.2.2.2.2.2.2.2.2.2.2.1) = .bool true ∧ Ps w0 w' sp dp rp (m * 4194304 + bs.length + bs.length) ((sd.append X bs).2) ((rapp tr X bs).2) bx 35 #[.int .i64 K, .string ⟨A.toArray⟩, .slice ua bs.length uc, .int .i64 n]) ∧ (j = 4 → (xq.2.2.2.2.2.2.2.2.2.2.2) = .bool true ∧ Ps w0 w' sp dp rp (m * 4194304 + bs.length + bs.length) ((sd.append X bs).2) ((rapp tr X bs).2) bx 35 #[.int .i64 K, .string ⟨A.toArray⟩, .slice ua bs.length uc, .int .i64 n]))) ?lay129 mixed (by kernel_rfl) ?h0129 ?hs129 ?he129
    case lay129 =>
      intro xq
      simp only [Act.put, List.setIfInBounds_toArray, List.set_cons_zero, List.set_cons_succ]
      rfl
    case h0129 =>
      refine ⟨(undef, undef, undef, undef, undef, undef, undef, undef, undef, undef, undef, .bool false), rfl, ?sig129, ⟨(fun h => by cases h), (fun h => by cases h), (fun h => by cases h), (fun h => by cases h), (fun h => by cases h), (fun h => by cases h), (fun h => by cases h), (fun h => by cases h)⟩, 0, Nat.zero_le _, ⟨rfl, rfl, rfl, rfl⟩, ?S0129, (fun h => by cases h), (fun h => by cases h), (fun h => by cases h), (fun h => by cases h)⟩
      case sig129 => exact hSig0
      case S0129 => exact fun _ => hS00
    case hs129 =>
      refine ⟨?_, ?_, ?_, ?_, ?_, ?_, ?_, ?_, ?_, ?_, ?_, ?_, trivial⟩
      · rintro d ⟨x129, x130, x131, x132, x133, x134, x135, x136, x137, x138, x139, x8⟩ w' hI hd hdp KQ hK
        dsimp only at hI
        obtain ⟨hS, ⟨f0, f1, f2, f3, f5, f6, f7, f8⟩, j, hj, ⟨dd4, dd9, dd10, dd11⟩, ⟨p0, p1, p2, p3, p4⟩⟩ := hI
        have HF : Hid _ := And.intro hS (And.intro (And.intro f0 (And.intro f1 (And.intro f2 (And.intro f3 (And.intro f5 (And.intro f6 (And.intro f7 f8))))))) (And.intro hj (And.intro (And.intro dd4 (And.intro dd9 (And.intro dd10 dd11))) (And.intro p0 (And.intro p1 (And.intro p2 (And.intro p3 p4)))))))
        clear hS f0 f1 f2 f3 f5 f6 f7 f8 hj dd4 dd9 dd10 dd11 p0 p1 p2 p3 p4 hdp hd
        refine Opn.mk ?_
        dsimp only
        go_simp
        obtain ⟨hS, ⟨f0, f1, f2, f3, f5, f6, f7, f8⟩, hj, ⟨dd4, dd9, dd10, dd11⟩, ⟨p0, p1, p2, p3, p4⟩⟩ := HF.out
        exact hK.out (.pointer (some ⟨dp, 0, none⟩), x130, x131, x132, x133, x134, x135, x136, x137, x138, x139, x8) _ ⟨hS, ⟨(fun _ => rfl), (fun h => f1 (upd_ne h (by decide))), (fun h => f2 (upd_ne h (by decide))), (fun h => f3 (upd_ne h (by decide))), (fun h => f5 (upd_ne h (by decide))), (fun h => f6 (upd_ne h (by decide))), (fun h => f7 (upd_ne h (by decide))), (fun h => f8 (upd_ne h (by decide)))⟩, j, hj, ⟨((upd_no (by decide)).trans dd4), ((upd_no (by decide)).trans dd9), ((upd_no (by decide)).trans dd10), ((upd_no (by decide)).trans dd11)⟩, ⟨p0, p1, p2, p3, p4⟩⟩
      · rintro d ⟨x129, x130, x131, x132, x133, x134, x135, x136, x137, x138, x139, x8⟩ w' hI hd hdp KQ hK
        dsimp only at hI
        obtain ⟨hS, ⟨f0, f1, f2, f3, f5, f6, f7, f8⟩, j, hj, ⟨dd4, dd9, dd10, dd11⟩, ⟨p0, p1, p2, p3, p4⟩⟩ := hI
        have HF : Hid _ := And.intro hS (And.intro (And.intro f0 (And.intro f1 (And.intro f2 (And.intro f3 (And.intro f5 (And.intro f6 (And.intro f7 f8))))))) (And.intro hj (And.intro (And.intro dd4 (And.intro dd9 (And.intro dd10 dd11))) (And.intro p0 (And.intro p1 (And.intro p2 (And.intro p3 p4)))))))
        clear hS f0 f1 f2 f3 f5 f6 f7 f8 hj dd4 dd9 dd10 dd11 p0 p1 p2 p3 p4 hdp hd
        refine Opn.mk ?_
        dsimp only
        go_simp
        obtain ⟨hS, ⟨f0, f1, f2, f3, f5, f6, f7, f8⟩, hj, ⟨dd4, dd9, dd10, dd11⟩, ⟨p0, p1, p2, p3, p4⟩⟩ := HF.out
        exact hK.out (x129, .string ⟨X.toArray⟩, x131, x132, x133, x134, x135, x136, x137, x138, x139, x8) _ ⟨hS, ⟨(fun h => f0 (upd_ne h (by decide))), (fun _ => rfl), (fun h => f2 (upd_ne h (by decide))), (fun h => f3 (upd_ne h (by decide))), (fun h => f5 (upd_ne h (by decide))), (fun h => f6 (upd_ne h (by decide))), (fun h => f7 (upd_ne h (by decide))), (fun h => f8 (upd_ne h (by decide)))⟩, j, hj, ⟨((upd_no (by decide)).trans dd4), ((upd_no (by decide)).trans dd9), ((upd_no (by decide)).trans dd10), ((upd_no (by decide)).trans dd11)⟩, ⟨p0, p1, p2, p3, p4⟩⟩
      · rintro d ⟨x129, x130, x131, x132, x133, x134, x135, x136, x137, x138, x139, x8⟩ w' hI hd hdp KQ hK
        dsimp only at hI
        obtain ⟨hS, ⟨f0, f1, f2, f3, f5, f6, f7, f8⟩, j, hj, ⟨dd4, dd9, dd10, dd11⟩, ⟨p0, p1, p2, p3, p4⟩⟩ := hI
        have HF : Hid _ := And.intro hS (And.intro (And.intro f0 (And.intro f1 (And.intro f2 (And.intro f3 (And.intro f5 (And.intro f6 (And.intro f7 f8))))))) (And.intro hj (And.intro (And.intro dd4 (And.intro dd9 (And.intro dd10 dd11))) (And.intro p0 (And.intro p1 (And.intro p2 (And.intro p3 p4)))))))
        clear hS f0 f1 f2 f3 f5 f6 f7 f8 hj dd4 dd9 dd10 dd11 p0 p1 p2 p3 p4 hdp hd
        refine Opn.mk ?_
        dsimp only
        go_simp
        obtain ⟨hS, ⟨f0, f1, f2, f3, f5, f6, f7, f8⟩, hj, ⟨dd4, dd9, dd10, dd11⟩, ⟨p0, p1, p2, p3, p4⟩⟩ := HF.out
        exact hK.out (x129, x130, .pointer (some ⟨bx, 2, none⟩), x132, x133, x134, x135, x136, x137, x138, x139, x8) _ ⟨hS, ⟨(fun h => f0 (upd_ne h (by decide))), (fun h => f1 (upd_ne h (by decide))), (fun _ => rfl), (fun h => f3 (upd_ne h (by decide))), (fun h => f5 (upd_ne h (by decide))), (fun h => f6 (upd_ne h (by decide))), (fun h => f7 (upd_ne h (by decide))), (fun h => f8 (upd_ne h (by decide)))⟩, j, hj, ⟨((upd_no (by decide)).trans dd4), ((upd_no (by decide)).trans dd9), ((upd_no (by decide)).trans dd10), ((upd_no (by decide)).trans dd11)⟩, ⟨p0, p1, p2, p3, p4⟩⟩
      · rintro d ⟨x129, x130, x131, x132, x133, x134, x135, x136, x137, x138, x139, x8⟩ w' hI hd hdp KQ hK
        dsimp only at hI
        obtain ⟨hS, ⟨f0, f1, f2, f3, f5, f6, f7, f8⟩, j, hj, ⟨dd4, dd9, dd10, dd11⟩, ⟨p0, p1, p2, p3, p4⟩⟩ := hI
        obtain rfl := f2 (hdp 2 (by decide +kernel))
        have cc : w'.cell? ⟨bx, 2, none⟩ = some (.slice ua bs.length uc) := BxA.cell hS 2 _ rfl
        have HF : Hid _ := And.intro hS (And.intro (And.intro f0 (And.intro f1 (And.intro f2 (And.intro f3 (And.intro f5 (And.intro f6 (And.intro f7 f8))))))) (And.intro hj (And.intro (And.intro dd4 (And.intro dd9 (And.intro dd10 dd11))) (And.intro p0 (And.intro p1 (And.intro p2 (And.intro p3 p4)))))))
        clear hS f0 f1 f2 f3 f5 f6 f7 f8 hj dd4 dd9 dd10 dd11 p0 p1 p2 p3 p4 hdp hd
        refine Opn.mk ?_
        dsimp only
        go_simp
        obtain ⟨hS, ⟨f0, f1, f2, f3, f5, f6, f7, f8⟩, hj, ⟨dd4, dd9, dd10, dd11⟩, ⟨p0, p1, p2, p3, p4⟩⟩ := HF.out
        exact hK.out (x129, x130, .pointer (some ⟨bx, 2, none⟩), .slice ua bs.length uc, x133, x134, x135, x136, x137, x138, x139, x8) _ ⟨hS, ⟨(fun h => f0 (upd_ne h (by decide))), (fun h => f1 (upd_ne h (by decide))), (fun _ => rfl), (fun _ => rfl), (fun h => f5 (upd_ne h (by decide))), (fun h => f6 (upd_ne h (by decide))), (fun h => f7 (upd_ne h (by decide))), (fun h => f8 (upd_ne h (by decide)))⟩, j, hj, ⟨((upd_no (by decide)).trans dd4), ((upd_no (by decide)).trans dd9), ((upd_no (by decide)).trans dd10), ((upd_no (by decide)).trans dd11)⟩, ⟨p0, p1, p2, p3, p4⟩⟩
      · rintro d ⟨x129, x130, x131, x132, x133, x134, x135, x136, x137, x138, x139, x8⟩ w' hI hd hdp KQ hK
        dsimp only at hI
        obtain ⟨hS, ⟨f0, f1, f2, f3, f5, f6, f7, f8⟩, j, hj, ⟨dd4, dd9, dd10, dd11⟩, ⟨p0, p1, p2, p3, p4⟩⟩ := hI
        obtain rfl := f0 (hdp 0 (by decide +kernel))
        obtain rfl := f1 (hdp 1 (by decide +kernel))
        obtain rfl := f3 (hdp 3 (by decide +kernel))
        obtain rfl := ph_zero dd4 hd
        have s := p0 rfl
        clear p0 p1 p2 p3 p4 hj
        have kk := ps_append s X (.slice ua bs.length uc) bs HXL.out HOK.out.r HNN.out.2.2.2.2.2.1 HN.out.2.2.2.2.2.2.2.1
        rw [HC1.out] at kk
        have HG : Hid _ := And.intro hS s
        clear hS s
        have HF : Hid _ := And.intro (And.intro f0 (And.intro f1 (And.intro f2 (And.intro f3 (And.intro f5 (And.intro f6 (And.intro f7 f8))))))) (And.intro dd4 (And.intro dd9 (And.intro dd10 dd11)))
        clear f0 f1 f2 f3 f5 f6 f7 f8 dd4 dd9 dd10 dd11 hdp hd
        refine Opn.mk ?_
        dsimp only
        go_simp
        go_wp2_with (first | (go_at_call 27; with_reducible refine kk.mono ?_; rintro e5 w5 ⟨rfl, G5⟩))
        obtain ⟨hS, s⟩ := HG.out
        obtain ⟨⟨f0, f1, f2, f3, f5, f6, f7, f8⟩, ⟨dd4, dd9, dd10, dd11⟩⟩ := HF.out
        refine hK.out (.pointer (some ⟨dp, 0, none⟩), .string ⟨X.toArray⟩, x131, .slice ua bs.length uc, .int .i64 (c : Int), x134, x135, x136, x137, x138, x139, x8) _ ⟨?sg, ⟨(fun _ => rfl), (fun _ => rfl), (fun h => f2 (upd_ne h (by decide))), (fun _ => rfl), (fun h => f5 (upd_ne h (by decide))), (fun h => f6 (upd_ne h (by decide))), (fun h => f7 (upd_ne h (by decide))), (fun h => f8 (upd_ne h (by decide)))⟩, 1, by decide, ⟨(by simp [upd]), ((upd_no (by decide)).trans (dd9.trans (by decide))), ((upd_no (by decide)).trans (dd10.trans (by decide))), ((upd_no (by decide)).trans (dd11.trans (by decide)))⟩, ⟨(fun h => absurd h (by decide)), (fun _ => ?new), (fun h => absurd h (by decide)), (fun h => absurd h (by decide)), (fun h => absurd h (by decide))⟩⟩
        case sg => exact G5.box
        case new =>
          exact ⟨rfl, G5⟩
      · rintro d ⟨x129, x130, x131, x132, x133, x134, x135, x136, x137, x138, x139, x8⟩ w' hI hd hdp KQ hK
        dsimp only at hI
        obtain ⟨hS, ⟨f0, f1, f2, f3, f5, f6, f7, f8⟩, j, hj, ⟨dd4, dd9, dd10, dd11⟩, ⟨p0, p1, p2, p3, p4⟩⟩ := hI
        have HF : Hid _ := And.intro hS (And.intro (And.intro f0 (And.intro f1 (And.intro f2 (And.intro f3 (And.intro f5 (And.intro f6 (And.intro f7 f8))))))) (And.intro hj (And.intro (And.intro dd4 (And.intro dd9 (And.intro dd10 dd11))) (And.intro p0 (And.intro p1 (And.intro p2 (And.intro p3 p4)))))))
        clear hS f0 f1 f2 f3 f5 f6 f7 f8 hj dd4 dd9 dd10 dd11 p0 p1 p2 p3 p4 hdp hd
        refine Opn.mk ?_
        dsimp only
        go_simp
        obtain ⟨hS, ⟨f0, f1, f2, f3, f5, f6, f7, f8⟩, hj, ⟨dd4, dd9, dd10, dd11⟩, ⟨p0, p1, p2, p3, p4⟩⟩ := HF.out
        exact hK.out (x129, x130, x131, x132, x133, .pointer (some ⟨rp, 0, none⟩), x135, x136, x137, x138, x139, x8) _ ⟨hS, ⟨(fun h => f0 (upd_ne h (by decide))), (fun h => f1 (upd_ne h (by decide))), (fun h => f2 (upd_ne h (by decide))), (fun h => f3 (upd_ne h (by decide))), (fun _ => rfl), (fun h => f6 (upd_ne h (by decide))), (fun h => f7 (upd_ne h (by decide))), (fun h => f8 (upd_ne h (by decide)))⟩, j, hj, ⟨((upd_no (by decide)).trans dd4), ((upd_no (by decide)).trans dd9), ((upd_no (by decide)).trans dd10), ((upd_no (by decide)).trans dd11)⟩, ⟨p0, p1, p2, p3, p4⟩⟩
      · rintro d ⟨x129, x130, x131, x132, x133, x134, x135, x136, x137, x138, x139, x8⟩ w' hI hd hdp KQ hK
        dsimp only at hI
        obtain ⟨hS, ⟨f0, f1, f2, f3, f5, f6, f7, f8⟩, j, hj, ⟨dd4, dd9, dd10, dd11⟩, ⟨p0, p1, p2, p3, p4⟩⟩ := hI
        have HF : Hid _ := And.intro hS (And.intro (And.intro f0 (And.intro f1 (And.intro f2 (And.intro f3 (And.intro f5 (And.intro f6 (And.intro f7 f8))))))) (And.intro hj (And.intro (And.intro dd4 (And.intro dd9 (And.intro dd10 dd11))) (And.intro p0 (And.intro p1 (And.intro p2 (And.intro p3 p4)))))))
        clear hS f0 f1 f2 f3 f5 f6 f7 f8 hj dd4 dd9 dd10 dd11 p0 p1 p2 p3 p4 hdp hd
        refine Opn.mk ?_
        dsimp only
        go_simp
        obtain ⟨hS, ⟨f0, f1, f2, f3, f5, f6, f7, f8⟩, hj, ⟨dd4, dd9, dd10, dd11⟩, ⟨p0, p1, p2, p3, p4⟩⟩ := HF.out
        exact hK.out (x129, x130, x131, x132, x133, x134, .string ⟨X.toArray⟩, x136, x137, x138, x139, x8) _ ⟨hS, ⟨(fun h => f0 (upd_ne h (by decide))), (fun h => f1 (upd_ne h (by decide))), (fun h => f2 (upd_ne h (by decide))), (fun h => f3 (upd_ne h (by decide))), (fun h => f5 (upd_ne h (by decide))), (fun _ => rfl), (fun h => f7 (upd_ne h (by decide))), (fun h => f8 (upd_ne h (by decide)))⟩, j, hj, ⟨((upd_no (by decide)).trans dd4), ((upd_no (by decide)).trans dd9), ((upd_no (by decide)).trans dd10), ((upd_no (by decide)).trans dd11)⟩, ⟨p0, p1, p2, p3, p4⟩⟩
      · rintro d ⟨x129, x130, x131, x132, x133, x134, x135, x136, x137, x138, x139, x8⟩ w' hI hd hdp KQ hK
        dsimp only at hI
        obtain ⟨hS, ⟨f0, f1, f2, f3, f5, f6, f7, f8⟩, j, hj, ⟨dd4, dd9, dd10, dd11⟩, ⟨p0, p1, p2, p3, p4⟩⟩ := hI
        have HF : Hid _ := And.intro hS (And.intro (And.intro f0 (And.intro f1 (And.intro f2 (And.intro f3 (And.intro f5 (And.intro f6 (And.intro f7 f8))))))) (And.intro hj (And.intro (And.intro dd4 (And.intro dd9 (And.intro dd10 dd11))) (And.intro p0 (And.intro p1 (And.intro p2 (And.intro p3 p4)))))))
        clear hS f0 f1 f2 f3 f5 f6 f7 f8 hj dd4 dd9 dd10 dd11 p0 p1 p2 p3 p4 hdp hd
        refine Opn.mk ?_
        dsimp only
        go_simp
        obtain ⟨hS, ⟨f0, f1, f2, f3, f5, f6, f7, f8⟩, hj, ⟨dd4, dd9, dd10, dd11⟩, ⟨p0, p1, p2, p3, p4⟩⟩ := HF.out
        exact hK.out (x129, x130, x131, x132, x133, x134, x135, .pointer (some ⟨bx, 2, none⟩), x137, x138, x139, x8) _ ⟨hS, ⟨(fun h => f0 (upd_ne h (by decide))), (fun h => f1 (upd_ne h (by decide))), (fun h => f2 (upd_ne h (by decide))), (fun h => f3 (upd_ne h (by decide))), (fun h => f5 (upd_ne h (by decide))), (fun h => f6 (upd_ne h (by decide))), (fun _ => rfl), (fun h => f8 (upd_ne h (by decide)))⟩, j, hj, ⟨((upd_no (by decide)).trans dd4), ((upd_no (by decide)).trans dd9), ((upd_no (by decide)).trans dd10), ((upd_no (by decide)).trans dd11)⟩, ⟨p0, p1, p2, p3, p4⟩⟩
      · rintro d ⟨x129, x130, x131, x132, x133, x134, x135, x136, x137, x138, x139, x8⟩ w' hI hd hdp KQ hK
        dsimp only at hI
        obtain ⟨hS, ⟨f0, f1, f2, f3, f5, f6, f7, f8⟩, j, hj, ⟨dd4, dd9, dd10, dd11⟩, ⟨p0, p1, p2, p3, p4⟩⟩ := hI
        obtain rfl := f7 (hdp 7 (by decide +kernel))
        have cc : w'.cell? ⟨bx, 2, none⟩ = some (.slice ua bs.length uc) := BxA.cell hS 2 _ rfl
        have HF : Hid _ := And.intro hS (And.intro (And.intro f0 (And.intro f1 (And.intro f2 (And.intro f3 (And.intro f5 (And.intro f6 (And.intro f7 f8))))))) (And.intro hj (And.intro (And.intro dd4 (And.intro dd9 (And.intro dd10 dd11))) (And.intro p0 (And.intro p1 (And.intro p2 (And.intro p3 p4)))))))
        clear hS f0 f1 f2 f3 f5 f6 f7 f8 hj dd4 dd9 dd10 dd11 p0 p1 p2 p3 p4 hdp hd
        refine Opn.mk ?_
        dsimp only
        go_simp
        obtain ⟨hS, ⟨f0, f1, f2, f3, f5, f6, f7, f8⟩, hj, ⟨dd4, dd9, dd10, dd11⟩, ⟨p0, p1, p2, p3, p4⟩⟩ := HF.out
        exact hK.out (x129, x130, x131, x132, x133, x134, x135, .pointer (some ⟨bx, 2, none⟩), .slice ua bs.length uc, x138, x139, x8) _ ⟨hS, ⟨(fun h => f0 (upd_ne h (by decide))), (fun h => f1 (upd_ne h (by decide))), (fun h => f2 (upd_ne h (by decide))), (fun h => f3 (upd_ne h (by decide))), (fun h => f5 (upd_ne h (by decide))), (fun h => f6 (upd_ne h (by decide))), (fun _ => rfl), (fun _ => rfl)⟩, j, hj, ⟨((upd_no (by decide)).trans dd4), ((upd_no (by decide)).trans dd9), ((upd_no (by decide)).trans dd10), ((upd_no (by decide)).trans dd11)⟩, ⟨p0, p1, p2, p3, p4⟩⟩
      · rintro d ⟨x129, x130, x131, x132, x133, x134, x135, x136, x137, x138, x139, x8⟩ w' hI hd hdp KQ hK
        dsimp only at hI
        obtain ⟨hS, ⟨f0, f1, f2, f3, f5, f6, f7, f8⟩, j, hj, ⟨dd4, dd9, dd10, dd11⟩, ⟨p0, p1, p2, p3, p4⟩⟩ := hI
        obtain rfl := f5 (hdp 5 (by decide +kernel))
        obtain rfl := f6 (hdp 6 (by decide +kernel))
        obtain rfl := f8 (hdp 8 (by decide +kernel))
        obtain rfl := ph_eq (k := 0) dd9 hd dd4 (hdp 4 (by decide +kernel))
        have s := p1 rfl
        clear p0 p1 p2 p3 p4 hj
        obtain ⟨ea, s⟩ := s
        have kk := ps_rappend s X (.slice ua bs.length uc) bs HXL.out HOK.out.r HNN.out.2.2.2.2.2.2.1 HN.out.2.2.2.2.2.2.2.2 HN.out.2.2.2.1 HN.out.2.2.2.2.1
        rw [HC2.out] at kk
        have HG : Hid _ := And.intro hS (And.intro ea s)
        clear hS s ea
        have HF : Hid _ := And.intro (And.intro f0 (And.intro f1 (And.intro f2 (And.intro f3 (And.intro f5 (And.intro f6 (And.intro f7 f8))))))) (And.intro dd4 (And.intro dd9 (And.intro dd10 dd11)))
        clear f0 f1 f2 f3 f5 f6 f7 f8 dd4 dd9 dd10 dd11 hdp hd
        refine Opn.mk ?_
        dsimp only
        go_simp
        go_wp2_with (first | (go_at_call 37; with_reducible refine kk.mono ?_; rintro e5 w5 ⟨rfl, G5⟩))
        obtain ⟨hS, ea, s⟩ := HG.out
        obtain ⟨⟨f0, f1, f2, f3, f5, f6, f7, f8⟩, ⟨dd4, dd9, dd10, dd11⟩⟩ := HF.out
        refine hK.out (x129, x130, x131, x132, x133, .pointer (some ⟨rp, 0, none⟩), .string ⟨X.toArray⟩, x136, .slice ua bs.length uc, .int .i64 (c : Int), x139, x8) _ ⟨?sg, ⟨(fun h => f0 (upd_ne h (by decide))), (fun h => f1 (upd_ne h (by decide))), (fun h => f2 (upd_ne h (by decide))), (fun h => f3 (upd_ne h (by decide))), (fun _ => rfl), (fun _ => rfl), (fun h => f7 (upd_ne h (by decide))), (fun _ => rfl)⟩, 2, by decide, ⟨((upd_no (by decide)).trans (dd4.trans (by decide))), (by simp [upd]), ((upd_no (by decide)).trans (dd10.trans (by decide))), ((upd_no (by decide)).trans (dd11.trans (by decide)))⟩, ⟨(fun h => absurd h (by decide)), (fun h => absurd h (by decide)), (fun _ => ?new), (fun h => absurd h (by decide)), (fun h => absurd h (by decide))⟩⟩
        case sg => exact G5.box
        case new =>
          exact ⟨ea, rfl, G5⟩
      · rintro d ⟨x129, x130, x131, x132, x133, x134, x135, x136, x137, x138, x139, x8⟩ w' hI hd hdp KQ hK
        dsimp only at hI
        obtain ⟨hS, ⟨f0, f1, f2, f3, f5, f6, f7, f8⟩, j, hj, ⟨dd4, dd9, dd10, dd11⟩, ⟨p0, p1, p2, p3, p4⟩⟩ := hI
        obtain rfl := ph_eq (k := 1) dd10 hd dd9 (hdp 9 (by decide +kernel))
        have s := p2 rfl
        clear p0 p1 p2 p3 p4 hj
        obtain ⟨ea, eb, s⟩ := s
        subst ea
        subst eb
        have HG : Hid _ := And.intro hS s
        clear hS s
        have HF : Hid _ := And.intro (And.intro f0 (And.intro f1 (And.intro f2 (And.intro f3 (And.intro f5 (And.intro f6 (And.intro f7 f8))))))) (And.intro dd4 (And.intro dd9 (And.intro dd10 dd11)))
        clear f0 f1 f2 f3 f5 f6 f7 f8 dd4 dd9 dd10 dd11 hdp hd
        refine Opn.mk ?_
        dsimp only
        go_simp
        obtain ⟨hS, s⟩ := HG.out
        obtain ⟨⟨f0, f1, f2, f3, f5, f6, f7, f8⟩, ⟨dd4, dd9, dd10, dd11⟩⟩ := HF.out
        refine hK.out (x129, x130, x131, x132, .int .i64 (c : Int), x134, x135, x136, x137, .int .i64 (c : Int), .bool true, x8) _ ⟨?sg, ⟨(fun h => f0 (upd_ne h (by decide))), (fun h => f1 (upd_ne h (by decide))), (fun h => f2 (upd_ne h (by decide))), (fun h => f3 (upd_ne h (by decide))), (fun h => f5 (upd_ne h (by decide))), (fun h => f6 (upd_ne h (by decide))), (fun h => f7 (upd_ne h (by decide))), (fun h => f8 (upd_ne h (by decide)))⟩, 3, by decide, ⟨((upd_no (by decide)).trans (dd4.trans (by decide))), ((upd_no (by decide)).trans (dd9.trans (by decide))), (by simp [upd]), ((upd_no (by decide)).trans (dd11.trans (by decide)))⟩, ⟨(fun h => absurd h (by decide)), (fun h => absurd h (by decide)), (fun h => absurd h (by decide)), (fun _ => ?new), (fun h => absurd h (by decide))⟩⟩
        case sg => exact hS
        case new =>
          exact ⟨rfl, s⟩
      · rintro d ⟨x129, x130, x131, x132, x133, x134, x135, x136, x137, x138, x139, x8⟩ w' hI hd hdp KQ hK
        dsimp only at hI
        obtain ⟨hS, ⟨f0, f1, f2, f3, f5, f6, f7, f8⟩, j, hj, ⟨dd4, dd9, dd10, dd11⟩, ⟨p0, p1, p2, p3, p4⟩⟩ := hI
        obtain rfl := ph_eq (k := 2) dd11 hd dd10 (hdp 10 (by decide +kernel))
        have s := p3 rfl
        clear p0 p1 p2 p3 p4 hj
        obtain ⟨ea, s⟩ := s
        subst ea
        have HG : Hid _ := And.intro hS s
        clear hS s
        have HF : Hid _ := And.intro (And.intro f0 (And.intro f1 (And.intro f2 (And.intro f3 (And.intro f5 (And.intro f6 (And.intro f7 f8))))))) (And.intro dd4 (And.intro dd9 (And.intro dd10 dd11)))
        clear f0 f1 f2 f3 f5 f6 f7 f8 dd4 dd9 dd10 dd11 hdp hd
        refine Opn.mk ?_
        dsimp only
        go_simp
        obtain ⟨hS, s⟩ := HG.out
        obtain ⟨⟨f0, f1, f2, f3, f5, f6, f7, f8⟩, ⟨dd4, dd9, dd10, dd11⟩⟩ := HF.out
        refine hK.out (x129, x130, x131, x132, x133, x134, x135, x136, x137, x138, .bool true, .bool true) _ ⟨?sg, ⟨(fun h => f0 (upd_ne h (by decide))), (fun h => f1 (upd_ne h (by decide))), (fun h => f2 (upd_ne h (by decide))), (fun h => f3 (upd_ne h (by decide))), (fun h => f5 (upd_ne h (by decide))), (fun h => f6 (upd_ne h (by decide))), (fun h => f7 (upd_ne h (by decide))), (fun h => f8 (upd_ne h (by decide)))⟩, 4, by decide, ⟨((upd_no (by decide)).trans (dd4.trans (by decide))), ((upd_no (by decide)).trans (dd9.trans (by decide))), ((upd_no (by decide)).trans (dd10.trans (by decide))), (by simp [upd])⟩, ⟨(fun h => absurd h (by decide)), (fun h => absurd h (by decide)), (fun h => absurd h (by decide)), (fun h => absurd h (by decide)), (fun _ => ?new)⟩⟩
        case sg => exact hS
        case new =>
          exact ⟨rfl, s⟩
    case he129 =>
      rintro d ⟨x129, x130, x131, x132, x133, x134, x135, x136, x137, x138, x139, x8⟩ w' hall hI
      dsimp only at hI
      obtain ⟨hS, ⟨f0, f1, f2, f3, f5, f6, f7, f8⟩, j, hj, ⟨dd4, dd9, dd10, dd11⟩, ⟨p0, p1, p2, p3, p4⟩⟩ := hI
      obtain rfl := ph_end (k := 3) hj dd11 (hall 11 (by decide))
      have s := p4 rfl
      clear hall hj f0 f1 f2 f3 f5 f6 f7 f8 dd4 dd9 dd10 dd11 p0 p1 p2 p3 p4
      obtain ⟨ea, s⟩ := s
      subst ea
      have HG : Hid _ := s
      clear hS s
      dsimp only
      go_wp2_with fail
      go_ret
      exact ⟨rfl, ⟨_, _, Ps.qp (t0 := tr) HG.out (HNN.out.2.2.2.2.2.2.2) (HR.out.append X bs).2 (rapp_ptB tr X bs).2 HB.out.1 (by rw [(rapp_ptB tr X bs).1]; exact HB.out.2.1) (nms_append HM.out X bs)⟩⟩
end Go.Proofs.Ythegdhbmfojdaaa
