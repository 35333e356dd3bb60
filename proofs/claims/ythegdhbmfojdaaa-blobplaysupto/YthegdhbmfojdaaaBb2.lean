/- A call on both: Get, List, CutAt, On, Cut, Open. -/
import Derived.Test.YthegdhbmfojdaaaBb0
namespace Go.Proofs.Ythegdhbmfojdaaa
open Go.RowKit Go.Maps Go.Sort
set_option linter.unusedVariables false

set_option maxRecDepth 100000 in
set_option maxHeartbeats 3200000 in
theorem both_4 (w0 w : World) (sp dp rp m : Nat) (sd : St) (tr : RSt) (K n : Int) (A : Str) (ua : Option Addr) (uc : Nat) (bs : Str) (h : Qp w0 w sp dp rp m sd tr) (hm : m < 100) (ok : OpM.Ok w0 1048576 ⟨K, A, .slice ua bs.length uc, bs, n⟩) (hk : absN K % 13 = 4) :
    Calls Try.prog 13 #[.pointer (some ⟨sp, 0, none⟩), .pointer (some ⟨dp, 0, none⟩), .pointer (some ⟨rp, 0, none⟩), .agg #[.int .i64 K, .string ⟨A.toArray⟩, .slice ua bs.length uc, .int .i64 n]] w fun e w' => e = .returned (.bool true) ∧ Bth w0 w' sp dp rp m := by
  have mixed : Try.prog.follows .mixedOrders = true := by kernel_rfl
  obtain ⟨W, hW⟩ : ∃ W, W = w.alloc (.cells #[.int .i64 K, .string ⟨A.toArray⟩, .slice ua bs.length uc, .int .i64 n] 35) := ⟨_, rfl⟩
  have hq := h.box hW
  have kAb := abs_any W K ok.k1 ok.k2
  have hab : (absN K : Int) % 13 = 4 := by omega
  have HR : Hid (Rel sd tr) := h.rel
  have HRX : Hid (∃ s, Rel s tr) := ⟨_, h.rel⟩
  have HM : Hid (NmS sd) := h.nm
  have HB : Hid (tr.n ≤ m * 1004 ∧ tr.part ≤ 9223372036854775807 ∧ m < 100) := ⟨h.n, h.part, hm⟩
  have HW : Hid (W = w.alloc (.cells #[.int .i64 K, .string ⟨A.toArray⟩, .slice ua bs.length uc, .int .i64 n] 35)) := hW
  have hA : A.length ≤ 1048576 := ok.a
  have HOK : Hid (OpM.Ok w0 1048576 ⟨K, A, .slice ua bs.length uc, bs, n⟩) := ok
  have hl : bs.length ≤ 1048576 := ok.rl
  have hop : sd.ops < 990000 := by have := h.n; have := h.rel.n; omega
  have hopt : tr.n < 990000 := by have := h.n; omega
  have HQ : Hid (Ps w0 W sp dp rp (m * 4194304) sd tr w.heap.size 35 #[.int .i64 K, .string ⟨A.toArray⟩, .slice ua bs.length uc, .int .i64 n]) := hq
  obtain ⟨bx, hbx⟩ : ∃ b, b = w.heap.size := ⟨_, rfl⟩
  rw [← hbx] at HQ
  have HN : Hid (A.length ≤ 2000000 ∧ sd.ops < 990000 ∧ tr.n < 990000 ∧ tr.part ≤ 9223372036854775807 ∧ Srt tr.fs ∧ sd.ops < 999000 ∧ tr.n < 999000 ∧ sd.ops < 1000000 ∧ tr.n < 1000000) := ⟨by omega, hop, hopt, h.part, h.rel.sp.srt, by omega, by omega, by omega, by omega⟩
  have HNN : Hid (m * 4194304 ≤ 140737488355328 ∧ m * 4194304 ≤ (m + 1) * 4194304 ∧ m * 4194304 + 1048584 ≤ 140737488355328 ∧ m * 4194304 + 1048584 + 1048584 ≤ 140737488355328 ∧ m * 4194304 + 1048584 + 1048584 ≤ (m + 1) * 4194304 ∧ m * 4194304 + bs.length ≤ 140737488355328 ∧ m * 4194304 + bs.length + bs.length ≤ 140737488355328 ∧ m * 4194304 + bs.length + bs.length ≤ (m + 1) * 4194304) := by apply hide; omega
  have c0 := HQ.out.box.cell 0 _ rfl
  clear hq h ok hW hm hA hl hop hopt hk
  go_enter Try.func13, Try.ntmps13
  go_wp2_with fail
  rw [← HW.out]
  go_wp2_with fail
  refine kAb.mono ?_
  rintro e wq ⟨rfl, rfl⟩
  clear kAb
  go_upto_region 9 with fail
  rw [← hbx]
  try rw [hab]
  clear hbx hab
  have k1 := ps_get HQ.out A HN.out.1 HNN.out.1
  have c1 := HQ.out.box.cell 1 _ rfl
  obtain ⟨g, hg⟩ : ∃ g, g = bget sd A := ⟨_, rfl⟩
  have HE : Hid (rgetB tr A = g) := by apply hide; rw [hg]; exact (HR.out.getB A).symm
  rw [← hg] at k1
  obtain ⟨c, l⟩ := g
  simp only at k1
  clear hg c0
  go_wp2_with fail
  refine k1.mono ?_
  rintro e w5 ⟨v5, rfl, r5, b5⟩
  obtain ⟨va, vc, rfl⟩ : ∃ a c, v5 = .slice a l.length c := by obtain ⟨a, c, e, _⟩ := r5; exact ⟨_, _, e⟩
  have HQ5 : Hid _ := HQ.out.below b5
  have HR5 : Hid (Reads w5 (.slice va l.length vc) l) := r5
  have k2 := ps_rget HQ5.out A HN.out.1 HNN.out.1
  rw [HE.out] at k2
  have d1 := HQ5.out.box.cell 1 _ rfl
  clear k1 r5 b5 c1
  go_wp2_with fail
  refine k2.mono ?_
  rintro e w6 ⟨v6, rfl, r6, b6⟩
  obtain ⟨vb, vd, rfl⟩ : ∃ a c, v6 = .slice a l.length c := by obtain ⟨a, c, e, _⟩ := r6; exact ⟨_, _, e⟩
  have HQ6 : Hid _ := HQ5.out.below b6
  have cv1 := conv_string w6 _ _ (HR5.out.below b6)
  have cv2 := conv_string w6 _ _ r6
  clear k2 r6 b6 d1
  go_wp2_with fail
  go_ret
  exact ⟨rfl, ⟨_, _, Ps.qp (t0 := tr) HQ6.out HNN.out.2.1 HR.out (Nat.le_add_right _ _) HB.out.1 HB.out.2.1 HM.out⟩⟩
set_option maxRecDepth 100000 in
set_option maxHeartbeats 3200000 in
theorem both_5 (w0 w : World) (sp dp rp m : Nat) (sd : St) (tr : RSt) (K n : Int) (A : Str) (ua : Option Addr) (uc : Nat) (bs : Str) (h : Qp w0 w sp dp rp m sd tr) (hm : m < 100) (ok : OpM.Ok w0 1048576 ⟨K, A, .slice ua bs.length uc, bs, n⟩) (hk : absN K % 13 = 5) :
    Calls Try.prog 13 #[.pointer (some ⟨sp, 0, none⟩), .pointer (some ⟨dp, 0, none⟩), .pointer (some ⟨rp, 0, none⟩), .agg #[.int .i64 K, .string ⟨A.toArray⟩, .slice ua bs.length uc, .int .i64 n]] w fun e w' => e = .returned (.bool true) ∧ Bth w0 w' sp dp rp m := by
  have mixed : Try.prog.follows .mixedOrders = true := by kernel_rfl
  obtain ⟨W, hW⟩ : ∃ W, W = w.alloc (.cells #[.int .i64 K, .string ⟨A.toArray⟩, .slice ua bs.length uc, .int .i64 n] 35) := ⟨_, rfl⟩
  have hq := h.box hW
  have kAb := abs_any W K ok.k1 ok.k2
  have hab : (absN K : Int) % 13 = 5 := by omega
  have HR : Hid (Rel sd tr) := h.rel
  have HRX : Hid (∃ s, Rel s tr) := ⟨_, h.rel⟩
  have HM : Hid (NmS sd) := h.nm
  have HB : Hid (tr.n ≤ m * 1004 ∧ tr.part ≤ 9223372036854775807 ∧ m < 100) := ⟨h.n, h.part, hm⟩
  have HW : Hid (W = w.alloc (.cells #[.int .i64 K, .string ⟨A.toArray⟩, .slice ua bs.length uc, .int .i64 n] 35)) := hW
  have hA : A.length ≤ 1048576 := ok.a
  have HOK : Hid (OpM.Ok w0 1048576 ⟨K, A, .slice ua bs.length uc, bs, n⟩) := ok
  have hl : bs.length ≤ 1048576 := ok.rl
  have hop : sd.ops < 990000 := by have := h.n; have := h.rel.n; omega
  have hopt : tr.n < 990000 := by have := h.n; omega
  have HQ : Hid (Ps w0 W sp dp rp (m * 4194304) sd tr w.heap.size 35 #[.int .i64 K, .string ⟨A.toArray⟩, .slice ua bs.length uc, .int .i64 n]) := hq
  obtain ⟨bx, hbx⟩ : ∃ b, b = w.heap.size := ⟨_, rfl⟩
  rw [← hbx] at HQ
  have HN : Hid (A.length ≤ 2000000 ∧ sd.ops < 990000 ∧ tr.n < 990000 ∧ tr.part ≤ 9223372036854775807 ∧ Srt tr.fs ∧ sd.ops < 999000 ∧ tr.n < 999000 ∧ sd.ops < 1000000 ∧ tr.n < 1000000) := ⟨by omega, hop, hopt, h.part, h.rel.sp.srt, by omega, by omega, by omega, by omega⟩
  have HNN : Hid (m * 4194304 ≤ 140737488355328 ∧ m * 4194304 ≤ (m + 1) * 4194304 ∧ m * 4194304 + 1048584 ≤ 140737488355328 ∧ m * 4194304 + 1048584 + 1048584 ≤ 140737488355328 ∧ m * 4194304 + 1048584 + 1048584 ≤ (m + 1) * 4194304 ∧ m * 4194304 + bs.length ≤ 140737488355328 ∧ m * 4194304 + bs.length + bs.length ≤ 140737488355328 ∧ m * 4194304 + bs.length + bs.length ≤ (m + 1) * 4194304) := by apply hide; omega
  have c0 := HQ.out.box.cell 0 _ rfl
  clear hq h ok hW hm hA hl hop hopt hk
  go_enter Try.func13, Try.ntmps13
  go_wp2_with fail
  rw [← HW.out]
  go_wp2_with fail
  refine kAb.mono ?_
  rintro e wq ⟨rfl, rfl⟩
  clear kAb
  go_upto_region 9 with fail
  rw [← hbx]
  try rw [hab]
  clear hbx hab
  have k1 := ps_get HQ.out A HN.out.1 HNN.out.1
  have c1 := HQ.out.box.cell 1 _ rfl
  obtain ⟨g, hg⟩ : ∃ g, g = bget sd A := ⟨_, rfl⟩
  have HE : Hid (rgetB tr A = g) := by apply hide; rw [hg]; exact (HR.out.getB A).symm
  rw [← hg] at k1
  obtain ⟨c, l⟩ := g
  simp only at k1
  clear hg c0
  go_wp2_with fail
  refine k1.mono ?_
  rintro e w5 ⟨v5, rfl, r5, b5⟩
  obtain ⟨va, vc, rfl⟩ : ∃ a c, v5 = .slice a l.length c := by obtain ⟨a, c, e, _⟩ := r5; exact ⟨_, _, e⟩
  have HQ5 : Hid _ := HQ.out.below b5
  have HR5 : Hid (Reads w5 (.slice va l.length vc) l) := r5
  have k2 := ps_rget HQ5.out A HN.out.1 HNN.out.1
  rw [HE.out] at k2
  have d1 := HQ5.out.box.cell 1 _ rfl
  clear k1 r5 b5 c1
  go_wp2_with fail
  refine k2.mono ?_
  rintro e w6 ⟨v6, rfl, r6, b6⟩
  obtain ⟨vb, vd, rfl⟩ : ∃ a c, v6 = .slice a l.length c := by obtain ⟨a, c, e, _⟩ := r6; exact ⟨_, _, e⟩
  have HQ6 : Hid _ := HQ5.out.below b6
  have cv1 := conv_string w6 _ _ (HR5.out.below b6)
  have cv2 := conv_string w6 _ _ r6
  clear k2 r6 b6 d1
  go_wp2_with fail
  go_ret
  exact ⟨rfl, ⟨_, _, Ps.qp (t0 := tr) HQ6.out HNN.out.2.1 HR.out (Nat.le_add_right _ _) HB.out.1 HB.out.2.1 HM.out⟩⟩
set_option maxRecDepth 100000 in
set_option maxHeartbeats 3200000 in
theorem both_6 (w0 w : World) (sp dp rp m : Nat) (sd : St) (tr : RSt) (K n : Int) (A : Str) (ua : Option Addr) (uc : Nat) (bs : Str) (h : Qp w0 w sp dp rp m sd tr) (hm : m < 100) (ok : OpM.Ok w0 1048576 ⟨K, A, .slice ua bs.length uc, bs, n⟩) (hk : absN K % 13 = 6) :
    Calls Try.prog 13 #[.pointer (some ⟨sp, 0, none⟩), .pointer (some ⟨dp, 0, none⟩), .pointer (some ⟨rp, 0, none⟩), .agg #[.int .i64 K, .string ⟨A.toArray⟩, .slice ua bs.length uc, .int .i64 n]] w fun e w' => e = .returned (.bool true) ∧ Bth w0 w' sp dp rp m := by
  have mixed : Try.prog.follows .mixedOrders = true := by kernel_rfl
  obtain ⟨W, hW⟩ : ∃ W, W = w.alloc (.cells #[.int .i64 K, .string ⟨A.toArray⟩, .slice ua bs.length uc, .int .i64 n] 35) := ⟨_, rfl⟩
  have hq := h.box hW
  have kAb := abs_any W K ok.k1 ok.k2
  have hab : (absN K : Int) % 13 = 6 := by omega
  have HR : Hid (Rel sd tr) := h.rel
  have HRX : Hid (∃ s, Rel s tr) := ⟨_, h.rel⟩
  have HM : Hid (NmS sd) := h.nm
  have HB : Hid (tr.n ≤ m * 1004 ∧ tr.part ≤ 9223372036854775807 ∧ m < 100) := ⟨h.n, h.part, hm⟩
  have HW : Hid (W = w.alloc (.cells #[.int .i64 K, .string ⟨A.toArray⟩, .slice ua bs.length uc, .int .i64 n] 35)) := hW
  have hA : A.length ≤ 1048576 := ok.a
  have HOK : Hid (OpM.Ok w0 1048576 ⟨K, A, .slice ua bs.length uc, bs, n⟩) := ok
  have hl : bs.length ≤ 1048576 := ok.rl
  have hop : sd.ops < 990000 := by have := h.n; have := h.rel.n; omega
  have hopt : tr.n < 990000 := by have := h.n; omega
  have HQ : Hid (Ps w0 W sp dp rp (m * 4194304) sd tr w.heap.size 35 #[.int .i64 K, .string ⟨A.toArray⟩, .slice ua bs.length uc, .int .i64 n]) := hq
  obtain ⟨bx, hbx⟩ : ∃ b, b = w.heap.size := ⟨_, rfl⟩
  rw [← hbx] at HQ
  have HN : Hid (A.length ≤ 2000000 ∧ sd.ops < 990000 ∧ tr.n < 990000 ∧ tr.part ≤ 9223372036854775807 ∧ Srt tr.fs ∧ sd.ops < 999000 ∧ tr.n < 999000 ∧ sd.ops < 1000000 ∧ tr.n < 1000000) := ⟨by omega, hop, hopt, h.part, h.rel.sp.srt, by omega, by omega, by omega, by omega⟩
  have HNN : Hid (m * 4194304 ≤ 140737488355328 ∧ m * 4194304 ≤ (m + 1) * 4194304 ∧ m * 4194304 + 1048584 ≤ 140737488355328 ∧ m * 4194304 + 1048584 + 1048584 ≤ 140737488355328 ∧ m * 4194304 + 1048584 + 1048584 ≤ (m + 1) * 4194304 ∧ m * 4194304 + bs.length ≤ 140737488355328 ∧ m * 4194304 + bs.length + bs.length ≤ 140737488355328 ∧ m * 4194304 + bs.length + bs.length ≤ (m + 1) * 4194304) := by apply hide; omega
  have c0 := HQ.out.box.cell 0 _ rfl
  clear hq h ok hW hm hA hl hop hopt hk
  go_enter Try.func13, Try.ntmps13
  go_wp2_with fail
  rw [← HW.out]
  go_wp2_with fail
  refine kAb.mono ?_
  rintro e wq ⟨rfl, rfl⟩
  clear kAb
  go_upto_region 13 with fail
  rw [← hbx]
  try rw [hab]
  clear hbx hab
  have k1 := ps_list HQ.out
  have HC : Hid (blist sd = rlistB tr) := HR.out.listB
  clear c0
  go_wp2_with fail
  refine k1.mono ?_
  rintro e w5 ⟨v5, rfl, r5, b5⟩
  have HQ5 : Hid _ := HQ.out.below b5
  have HR5 : Hid (Rds w5 v5 (sv (blist sd))) := r5
  have k2 := ps_rlist HQ5.out HR.out
  clear k1 r5 b5
  go_wp2_with fail
  refine k2.mono ?_
  rintro e w6 ⟨v6, rfl, r6, b6⟩
  have HQ6 : Hid _ := HQ5.out.below b6
  have k3 := refsame_any w6 v5 v6 _ _ (HR5.out.below b6) r6
  rw [decide_eq_true HC.out] at k3
  clear k2 r6 b6
  go_wp2_with fail
  refine k3.mono ?_
  rintro e w7 ⟨rfl, b7⟩
  have HQ7 : Hid _ := HQ6.out.below b7
  clear k3 b7
  go_wp2_with fail
  go_ret
  exact ⟨rfl, ⟨_, _, Ps.qp (t0 := tr) HQ7.out HNN.out.2.1 HR.out (Nat.le_add_right _ _) HB.out.1 HB.out.2.1 HM.out⟩⟩
set_option maxRecDepth 100000 in
set_option maxHeartbeats 3200000 in
theorem both_8 (w0 w : World) (sp dp rp m : Nat) (sd : St) (tr : RSt) (K n : Int) (A : Str) (ua : Option Addr) (uc : Nat) (bs : Str) (h : Qp w0 w sp dp rp m sd tr) (hm : m < 100) (ok : OpM.Ok w0 1048576 ⟨K, A, .slice ua bs.length uc, bs, n⟩) (hk : absN K % 13 = 8) :
    Calls Try.prog 13 #[.pointer (some ⟨sp, 0, none⟩), .pointer (some ⟨dp, 0, none⟩), .pointer (some ⟨rp, 0, none⟩), .agg #[.int .i64 K, .string ⟨A.toArray⟩, .slice ua bs.length uc, .int .i64 n]] w fun e w' => e = .returned (.bool true) ∧ Bth w0 w' sp dp rp m := by
  have mixed : Try.prog.follows .mixedOrders = true := by kernel_rfl
  obtain ⟨W, hW⟩ : ∃ W, W = w.alloc (.cells #[.int .i64 K, .string ⟨A.toArray⟩, .slice ua bs.length uc, .int .i64 n] 35) := ⟨_, rfl⟩
  have hq := h.box hW
  have kAb := abs_any W K ok.k1 ok.k2
  have hab : (absN K : Int) % 13 = 8 := by omega
  have HR : Hid (Rel sd tr) := h.rel
  have HRX : Hid (∃ s, Rel s tr) := ⟨_, h.rel⟩
  have HM : Hid (NmS sd) := h.nm
  have HB : Hid (tr.n ≤ m * 1004 ∧ tr.part ≤ 9223372036854775807 ∧ m < 100) := ⟨h.n, h.part, hm⟩
  have HW : Hid (W = w.alloc (.cells #[.int .i64 K, .string ⟨A.toArray⟩, .slice ua bs.length uc, .int .i64 n] 35)) := hW
  have hA : A.length ≤ 1048576 := ok.a
  have HOK : Hid (OpM.Ok w0 1048576 ⟨K, A, .slice ua bs.length uc, bs, n⟩) := ok
  have hl : bs.length ≤ 1048576 := ok.rl
  have hop : sd.ops < 990000 := by have := h.n; have := h.rel.n; omega
  have hopt : tr.n < 990000 := by have := h.n; omega
  have HQ : Hid (Ps w0 W sp dp rp (m * 4194304) sd tr w.heap.size 35 #[.int .i64 K, .string ⟨A.toArray⟩, .slice ua bs.length uc, .int .i64 n]) := hq
  obtain ⟨bx, hbx⟩ : ∃ b, b = w.heap.size := ⟨_, rfl⟩
  rw [← hbx] at HQ
  have HN : Hid (A.length ≤ 2000000 ∧ sd.ops < 990000 ∧ tr.n < 990000 ∧ tr.part ≤ 9223372036854775807 ∧ Srt tr.fs ∧ sd.ops < 999000 ∧ tr.n < 999000 ∧ sd.ops < 1000000 ∧ tr.n < 1000000) := ⟨by omega, hop, hopt, h.part, h.rel.sp.srt, by omega, by omega, by omega, by omega⟩
  have HNN : Hid (m * 4194304 ≤ 140737488355328 ∧ m * 4194304 ≤ (m + 1) * 4194304 ∧ m * 4194304 + 1048584 ≤ 140737488355328 ∧ m * 4194304 + 1048584 + 1048584 ≤ 140737488355328 ∧ m * 4194304 + 1048584 + 1048584 ≤ (m + 1) * 4194304 ∧ m * 4194304 + bs.length ≤ 140737488355328 ∧ m * 4194304 + bs.length + bs.length ≤ 140737488355328 ∧ m * 4194304 + bs.length + bs.length ≤ (m + 1) * 4194304) := by apply hide; omega
  have c0 := HQ.out.box.cell 0 _ rfl
  clear hq h ok hW hm hA hl hop hopt hk
  go_enter Try.func13, Try.ntmps13
  go_wp2_with fail
  rw [← HW.out]
  go_wp2_with fail
  refine kAb.mono ?_
  rintro e wq ⟨rfl, rfl⟩
  clear kAb
  go_upto_region 17 with fail
  rw [← hbx]
  try rw [hab]
  clear hbx hab
  have kAn := fun nq os => abs_any (Go.Sort.grow (wq.drewN nq) os) n HOK.out.n1 HOK.out.n2
  have c3 := HQ.out.box.cell 3 _ rfl
  obtain ⟨Lv, hrb⟩ := HQ.out.rcell
  have r2 : wq.cell? ⟨rp, 2, none⟩ = some (.int .i64 (tr.n : Int)) := BxA.cell hrb 2 _ rfl
  have z2 := fun nq os => gro_cell r2 nq os
  have z3 := fun nq os => gro_cell c3 nq os
  have zA : ∀ nq os, Calls Try.prog 18 #[.int .i64 n] (Go.Sort.grow (wq.drewN nq) os) fun e w' => e = .returned (.int .i64 (absN n : Int)) ∧ ∃ q os', w' = Go.Sort.grow ((Go.Sort.grow (wq.drewN nq) os).drewN q) os' := fun nq os => (kAn nq os).mono fun _ _ ⟨he, hw⟩ => ⟨he, 0, #[], by rw [hw, grow_empty]; rfl⟩
  obtain ⟨q6, hq6⟩ : ∃ q, q = absN n % 6 := ⟨_, rfl⟩
  have hq6z : (absN n : Int) % 6 = (q6 : Int) := by omega
  have hq6t : Int.tmod (absN n : Int) 6 = (q6 : Int) := by rw [Int.tmod_eq_emod_of_nonneg (by omega)]; exact hq6z
  have hlt : tr.n + q6 < 1000000 := by have := HN.out.2.2.1; omega
  have hw1 : wrap64 ((tr.n : Int) + (q6 : Int)) = (tr.n : Int) + (q6 : Int) := by rw [← IntWalk.i64_left, IntKind.wrap_i64]; omega
  have hw2 : IntKind.i64.wrap ((tr.n : Int) + (q6 : Int)) = (tr.n : Int) + (q6 : Int) := by rw [IntKind.wrap_i64]; omega
  have hw3 : wrap64 (q6 : Int) = (q6 : Int) := by rw [← IntWalk.i64_left, IntKind.wrap_i64]; omega
  have hw4 : IntKind.i64.wrap (q6 : Int) = (q6 : Int) := by rw [IntKind.wrap_i64]; omega
  clear kAn hrb hq6 c0
  refine wp_region_quiet_grown (by assumption) (by kernel_rfl) ?_
  repeat (go_big_quiet_step (first | (go_at_call 18; with_reducible refine Calls.grown_of (zA _ _))))
  refine wpQuiet_nil ?_
  intro w5 hw'
  obtain ⟨⟨nq, osq⟩, hw''⟩ := hw'
  have HQ5 : Hid (Ps w0 w5 sp dp rp (m * 4194304) sd tr bx 35 #[.int .i64 K, .string ⟨A.toArray⟩, .slice ua bs.length uc, .int .i64 n]) := by apply hide; rw [hw'']; exact HQ.out.below (gro_below wq nq osq)
  obtain ⟨z, hz⟩ : ∃ z : Int, z = (tr.n : Int) + (q6 : Int) := ⟨_, rfl⟩
  rw [← hz]
  have k1 := ps_cutAt HQ5.out z n
  have d3 := HQ5.out.box.cell 3 _ rfl
  clear hw'' z2 z3 zA hw1 hw2 hw3 hw4 hq6z hq6t r2 c3 hz hlt
  go_wp2_with fail
  refine k1.mono ?_
  rintro e w6 ⟨rfl, q6'⟩
  obtain ⟨Lv, hrb⟩ := q6'.rcell
  have x3 : w6.cell? ⟨rp, 3, none⟩ = some (.int .i64 tr.at_) := BxA.cell hrb 3 _ rfl
  have f3 := BxA.free hrb 3
  have q7 := q6'.rset 3 (.int .i64 z) { tr with at_ := z } rfl rfl (fun _ => rfl)
  obtain ⟨X, hX⟩ : ∃ X, X = w6.setCell ⟨rp, 3, none⟩ (.int .i64 z) := ⟨_, rfl⟩
  have HX : Hid (X = w6.setCell ⟨rp, 3, none⟩ (.int .i64 z)) := hX
  rw [← hX] at q7
  obtain ⟨Lv7, hrb7⟩ := q7.rcell
  have y4 : X.cell? ⟨rp, 4, none⟩ = some (.int .i64 tr.part) := BxA.cell hrb7 4 _ rfl
  have g4 := BxA.free hrb7 4
  have b3 := q7.box.cell 3 _ rfl
  have HQ8 : Hid _ := q7.rset 4 (.int .i64 n) { tr with at_ := z, part := n } rfl rfl (fun _ => rfl)
  clear k1 q6' q7 hrb hrb7 hX d3
  go_upto_region 20 with fail
  rw [← HX.out]
  go_wp2_with fail
  go_ret
  exact ⟨rfl, ⟨_, _, Ps.qp (t0 := tr) HQ8.out HNN.out.2.1 ⟨HR.out.sp, HR.out.off, HR.out.n, .inr ⟨rfl, rfl, rfl⟩⟩ (Nat.le_add_right _ _) HB.out.1 HOK.out.n2 HM.out⟩⟩
set_option maxRecDepth 100000 in
set_option maxHeartbeats 3200000 in
theorem both_9 (w0 w : World) (sp dp rp m : Nat) (sd : St) (tr : RSt) (K n : Int) (A : Str) (ua : Option Addr) (uc : Nat) (bs : Str) (h : Qp w0 w sp dp rp m sd tr) (hm : m < 100) (ok : OpM.Ok w0 1048576 ⟨K, A, .slice ua bs.length uc, bs, n⟩) (hk : absN K % 13 = 9) :
    Calls Try.prog 13 #[.pointer (some ⟨sp, 0, none⟩), .pointer (some ⟨dp, 0, none⟩), .pointer (some ⟨rp, 0, none⟩), .agg #[.int .i64 K, .string ⟨A.toArray⟩, .slice ua bs.length uc, .int .i64 n]] w fun e w' => e = .returned (.bool true) ∧ Bth w0 w' sp dp rp m := by
  have mixed : Try.prog.follows .mixedOrders = true := by kernel_rfl
  obtain ⟨W, hW⟩ : ∃ W, W = w.alloc (.cells #[.int .i64 K, .string ⟨A.toArray⟩, .slice ua bs.length uc, .int .i64 n] 35) := ⟨_, rfl⟩
  have hq := h.box hW
  have kAb := abs_any W K ok.k1 ok.k2
  have hab : (absN K : Int) % 13 = 9 := by omega
  have HR : Hid (Rel sd tr) := h.rel
  have HRX : Hid (∃ s, Rel s tr) := ⟨_, h.rel⟩
  have HM : Hid (NmS sd) := h.nm
  have HB : Hid (tr.n ≤ m * 1004 ∧ tr.part ≤ 9223372036854775807 ∧ m < 100) := ⟨h.n, h.part, hm⟩
  have HW : Hid (W = w.alloc (.cells #[.int .i64 K, .string ⟨A.toArray⟩, .slice ua bs.length uc, .int .i64 n] 35)) := hW
  have hA : A.length ≤ 1048576 := ok.a
  have HOK : Hid (OpM.Ok w0 1048576 ⟨K, A, .slice ua bs.length uc, bs, n⟩) := ok
  have hl : bs.length ≤ 1048576 := ok.rl
  have hop : sd.ops < 990000 := by have := h.n; have := h.rel.n; omega
  have hopt : tr.n < 990000 := by have := h.n; omega
  have HQ : Hid (Ps w0 W sp dp rp (m * 4194304) sd tr w.heap.size 35 #[.int .i64 K, .string ⟨A.toArray⟩, .slice ua bs.length uc, .int .i64 n]) := hq
  obtain ⟨bx, hbx⟩ : ∃ b, b = w.heap.size := ⟨_, rfl⟩
  rw [← hbx] at HQ
  have HN : Hid (A.length ≤ 2000000 ∧ sd.ops < 990000 ∧ tr.n < 990000 ∧ tr.part ≤ 9223372036854775807 ∧ Srt tr.fs ∧ sd.ops < 999000 ∧ tr.n < 999000 ∧ sd.ops < 1000000 ∧ tr.n < 1000000) := ⟨by omega, hop, hopt, h.part, h.rel.sp.srt, by omega, by omega, by omega, by omega⟩
  have HNN : Hid (m * 4194304 ≤ 140737488355328 ∧ m * 4194304 ≤ (m + 1) * 4194304 ∧ m * 4194304 + 1048584 ≤ 140737488355328 ∧ m * 4194304 + 1048584 + 1048584 ≤ 140737488355328 ∧ m * 4194304 + 1048584 + 1048584 ≤ (m + 1) * 4194304 ∧ m * 4194304 + bs.length ≤ 140737488355328 ∧ m * 4194304 + bs.length + bs.length ≤ 140737488355328 ∧ m * 4194304 + bs.length + bs.length ≤ (m + 1) * 4194304) := by apply hide; omega
  have c0 := HQ.out.box.cell 0 _ rfl
  clear hq h ok hW hm hA hl hop hopt hk
  go_enter Try.func13, Try.ntmps13
  go_wp2_with fail
  rw [← HW.out]
  go_wp2_with fail
  refine kAb.mono ?_
  rintro e wq ⟨rfl, rfl⟩
  clear kAb
  go_upto_region 22 with fail
  rw [← hbx]
  try rw [hab]
  clear hbx hab
  have k1 := ps_on HQ.out
  go_wp2_with fail
  refine k1.mono ?_
  rintro e w6 ⟨rfl, q6⟩
  obtain ⟨Lv, hrb⟩ := q6.rcell
  have x3 : w6.cell? ⟨rp, 1, none⟩ = some (.bool tr.off) := BxA.cell hrb 1 _ rfl
  have f3 := BxA.free hrb 1
  have HQ7 : Hid _ := q6.rset 1 (.bool false) { tr with off := false } rfl rfl (fun _ => rfl)
  clear k1 q6 hrb c0
  go_wp2_with fail
  go_ret
  exact ⟨rfl, ⟨_, _, Ps.qp (t0 := tr) HQ7.out HNN.out.2.1 ⟨HR.out.sp, rfl, HR.out.n, HR.out.cut⟩ (Nat.le_add_right _ _) HB.out.1 HB.out.2.1 HM.out⟩⟩
set_option maxRecDepth 100000 in
set_option maxHeartbeats 3200000 in
theorem both_11 (w0 w : World) (sp dp rp m : Nat) (sd : St) (tr : RSt) (K n : Int) (A : Str) (ua : Option Addr) (uc : Nat) (bs : Str) (h : Qp w0 w sp dp rp m sd tr) (hm : m < 100) (ok : OpM.Ok w0 1048576 ⟨K, A, .slice ua bs.length uc, bs, n⟩) (hk : absN K % 13 = 11) :
    Calls Try.prog 13 #[.pointer (some ⟨sp, 0, none⟩), .pointer (some ⟨dp, 0, none⟩), .pointer (some ⟨rp, 0, none⟩), .agg #[.int .i64 K, .string ⟨A.toArray⟩, .slice ua bs.length uc, .int .i64 n]] w fun e w' => e = .returned (.bool true) ∧ Bth w0 w' sp dp rp m := by
  have mixed : Try.prog.follows .mixedOrders = true := by kernel_rfl
  obtain ⟨W, hW⟩ : ∃ W, W = w.alloc (.cells #[.int .i64 K, .string ⟨A.toArray⟩, .slice ua bs.length uc, .int .i64 n] 35) := ⟨_, rfl⟩
  have hq := h.box hW
  have kAb := abs_any W K ok.k1 ok.k2
  have hab : (absN K : Int) % 13 = 11 := by omega
  have HR : Hid (Rel sd tr) := h.rel
  have HRX : Hid (∃ s, Rel s tr) := ⟨_, h.rel⟩
  have HM : Hid (NmS sd) := h.nm
  have HB : Hid (tr.n ≤ m * 1004 ∧ tr.part ≤ 9223372036854775807 ∧ m < 100) := ⟨h.n, h.part, hm⟩
  have HW : Hid (W = w.alloc (.cells #[.int .i64 K, .string ⟨A.toArray⟩, .slice ua bs.length uc, .int .i64 n] 35)) := hW
  have hA : A.length ≤ 1048576 := ok.a
  have HOK : Hid (OpM.Ok w0 1048576 ⟨K, A, .slice ua bs.length uc, bs, n⟩) := ok
  have hl : bs.length ≤ 1048576 := ok.rl
  have hop : sd.ops < 990000 := by have := h.n; have := h.rel.n; omega
  have hopt : tr.n < 990000 := by have := h.n; omega
  have HQ : Hid (Ps w0 W sp dp rp (m * 4194304) sd tr w.heap.size 35 #[.int .i64 K, .string ⟨A.toArray⟩, .slice ua bs.length uc, .int .i64 n]) := hq
  obtain ⟨bx, hbx⟩ : ∃ b, b = w.heap.size := ⟨_, rfl⟩
  rw [← hbx] at HQ
  have HN : Hid (A.length ≤ 2000000 ∧ sd.ops < 990000 ∧ tr.n < 990000 ∧ tr.part ≤ 9223372036854775807 ∧ Srt tr.fs ∧ sd.ops < 999000 ∧ tr.n < 999000 ∧ sd.ops < 1000000 ∧ tr.n < 1000000) := ⟨by omega, hop, hopt, h.part, h.rel.sp.srt, by omega, by omega, by omega, by omega⟩
  have HNN : Hid (m * 4194304 ≤ 140737488355328 ∧ m * 4194304 ≤ (m + 1) * 4194304 ∧ m * 4194304 + 1048584 ≤ 140737488355328 ∧ m * 4194304 + 1048584 + 1048584 ≤ 140737488355328 ∧ m * 4194304 + 1048584 + 1048584 ≤ (m + 1) * 4194304 ∧ m * 4194304 + bs.length ≤ 140737488355328 ∧ m * 4194304 + bs.length + bs.length ≤ 140737488355328 ∧ m * 4194304 + bs.length + bs.length ≤ (m + 1) * 4194304) := by apply hide; omega
  have c0 := HQ.out.box.cell 0 _ rfl
  clear hq h ok hW hm hA hl hop hopt hk
  go_enter Try.func13, Try.ntmps13
  go_wp2_with fail
  rw [← HW.out]
  go_wp2_with fail
  refine kAb.mono ?_
  rintro e wq ⟨rfl, rfl⟩
  clear kAb
  go_upto_region 28 with fail
  rw [← hbx]
  try rw [hab]
  clear hbx hab
  have kAb := abs_any wq K HOK.out.k1 HOK.out.k2
  have c3 := HQ.out.box.cell 3 _ rfl
  go_wp2_with fail
  refine kAb.mono ?_
  rintro e wz ⟨rfl, rfl⟩
  clear kAb
  by_cases h3 : (absN K : Int) % 3 = 0
  · have k1 := ps_cut HQ.out n
    go_wp2_with fail
    refine k1.mono ?_
    rintro e w5 ⟨rfl, q5⟩
    have HQ5 : Hid _ := q5
    have k2 := ps_rcut q5 n HNN.out.1 HOK.out.n2
    have d3 := q5.box.cell 3 _ rfl
    clear k1 q5 c0 c3
    go_wp2_with fail
    refine k2.mono ?_
    rintro e w6 ⟨rfl, q6⟩
    have HQ6 : Hid _ := q6
    clear k2 q6 d3
    go_wp2_with fail
    go_ret
    exact ⟨rfl, ⟨_, _, Ps.qp (t0 := tr) HQ6.out HNN.out.2.1 (HR.out.cutR n) (by rw [(rcut_pt tr n).2]; exact Nat.le_add_right _ _) HB.out.1 (by rw [(rcut_pt tr n).1]; exact HB.out.2.1) (nms_cut HM.out n)⟩⟩
  · have h3z : decide ((absN K : Int) % 3 = 0) = false := decide_eq_false h3
    go_wp2_with fail
    go_ret
    exact ⟨rfl, ⟨_, _, Ps.qp (t0 := tr) HQ.out HNN.out.2.1 HR.out (Nat.le_add_right _ _) HB.out.1 HB.out.2.1 HM.out⟩⟩
set_option maxRecDepth 100000 in
set_option maxHeartbeats 3200000 in
theorem both_12 (w0 w : World) (sp dp rp m : Nat) (sd : St) (tr : RSt) (K n : Int) (A : Str) (ua : Option Addr) (uc : Nat) (bs : Str) (h : Qp w0 w sp dp rp m sd tr) (hm : m < 100) (ok : OpM.Ok w0 1048576 ⟨K, A, .slice ua bs.length uc, bs, n⟩) (hk : absN K % 13 = 12) :
    Calls Try.prog 13 #[.pointer (some ⟨sp, 0, none⟩), .pointer (some ⟨dp, 0, none⟩), .pointer (some ⟨rp, 0, none⟩), .agg #[.int .i64 K, .string ⟨A.toArray⟩, .slice ua bs.length uc, .int .i64 n]] w fun e w' => e = .returned (.bool true) ∧ Bth w0 w' sp dp rp m := by
  have mixed : Try.prog.follows .mixedOrders = true := by kernel_rfl
  obtain ⟨W, hW⟩ : ∃ W, W = w.alloc (.cells #[.int .i64 K, .string ⟨A.toArray⟩, .slice ua bs.length uc, .int .i64 n] 35) := ⟨_, rfl⟩
  have hq := h.box hW
  have kAb := abs_any W K ok.k1 ok.k2
  have hab : (absN K : Int) % 13 = 12 := by omega
  have HR : Hid (Rel sd tr) := h.rel
  have HRX : Hid (∃ s, Rel s tr) := ⟨_, h.rel⟩
  have HM : Hid (NmS sd) := h.nm
  have HB : Hid (tr.n ≤ m * 1004 ∧ tr.part ≤ 9223372036854775807 ∧ m < 100) := ⟨h.n, h.part, hm⟩
  have HW : Hid (W = w.alloc (.cells #[.int .i64 K, .string ⟨A.toArray⟩, .slice ua bs.length uc, .int .i64 n] 35)) := hW
  have hA : A.length ≤ 1048576 := ok.a
  have HOK : Hid (OpM.Ok w0 1048576 ⟨K, A, .slice ua bs.length uc, bs, n⟩) := ok
  have hl : bs.length ≤ 1048576 := ok.rl
  have hop : sd.ops < 990000 := by have := h.n; have := h.rel.n; omega
  have hopt : tr.n < 990000 := by have := h.n; omega
  have HQ : Hid (Ps w0 W sp dp rp (m * 4194304) sd tr w.heap.size 35 #[.int .i64 K, .string ⟨A.toArray⟩, .slice ua bs.length uc, .int .i64 n]) := hq
  obtain ⟨bx, hbx⟩ : ∃ b, b = w.heap.size := ⟨_, rfl⟩
  rw [← hbx] at HQ
  have HN : Hid (A.length ≤ 2000000 ∧ sd.ops < 990000 ∧ tr.n < 990000 ∧ tr.part ≤ 9223372036854775807 ∧ Srt tr.fs ∧ sd.ops < 999000 ∧ tr.n < 999000 ∧ sd.ops < 1000000 ∧ tr.n < 1000000) := ⟨by omega, hop, hopt, h.part, h.rel.sp.srt, by omega, by omega, by omega, by omega⟩
  have HNN : Hid (m * 4194304 ≤ 140737488355328 ∧ m * 4194304 ≤ (m + 1) * 4194304 ∧ m * 4194304 + 1048584 ≤ 140737488355328 ∧ m * 4194304 + 1048584 + 1048584 ≤ 140737488355328 ∧ m * 4194304 + 1048584 + 1048584 ≤ (m + 1) * 4194304 ∧ m * 4194304 + bs.length ≤ 140737488355328 ∧ m * 4194304 + bs.length + bs.length ≤ 140737488355328 ∧ m * 4194304 + bs.length + bs.length ≤ (m + 1) * 4194304) := by apply hide; omega
  have c0 := HQ.out.box.cell 0 _ rfl
  clear hq h ok hW hm hA hl hop hopt hk
  go_enter Try.func13, Try.ntmps13
  go_wp2_with fail
  rw [← HW.out]
  go_wp2_with fail
  refine kAb.mono ?_
  rintro e wq ⟨rfl, rfl⟩
  clear kAb
  go_upto_region 32 with fail
  rw [← hbx]
  try rw [hab]
  clear hbx hab
  have k1 := ps_open HQ.out HN.out.2.1
  obtain ⟨h1, h2⟩ := HR.out.openB
  have hpt := ropenB_pt tr HQ.out.fewR
  have hnm := nms_openB HM.out
  have hn64 := HQ.out.nms HR.out
  obtain ⟨rs, hrs⟩ : ∃ q, q = bopen sd := ⟨_, rfl⟩
  obtain ⟨rt, hrt⟩ : ∃ q, q = ropenB tr := ⟨_, rfl⟩
  have HRT : Hid (ropenB tr = rt) := hrt.symm
  rw [← hrs] at k1 h1 h2 hnm
  rw [← hrt] at h1 h2 hpt
  obtain ⟨c, s1⟩ := rs
  obtain ⟨c', t1⟩ := rt
  simp only at h1 h2 k1 hpt hnm
  subst h1
  have HZ : Hid (Rel s1 t1 ∧ (t1.part = tr.part ∧ t1.n ≤ tr.n + 1004) ∧ NmS s1 ∧ (∀ f ∈ tr.fs, f.nm.length ≤ 64)) := ⟨h2, hpt, hnm, hn64⟩
  clear h2 hpt hnm hn64 hrs hrt c0
  by_cases hc : c = 0
  · subst hc
    go_wp2_with fail
    refine k1.mono ?_
    rintro e w5 ⟨ok5, -, q5⟩
    obtain ⟨pq, rfl⟩ := ok5 (by first | rfl | trivial)
    have k2 := ps_ropen q5 HZ.out.2.2.2 HNN.out.1 HN.out.2.2.1 HN.out.2.2.2.1
    rw [HRT.out] at k2
    clear k1 ok5 q5
    go_wp2_with fail
    refine k2.mono ?_
    rintro e w6 ⟨rfl, q6⟩
    have HQ6 : Hid _ := q6
    clear k2 q6
    go_wp2_with fail
    go_ret
    exact ⟨rfl, ⟨_, _, Ps.qp (t0 := tr) HQ6.out HNN.out.2.1 HZ.out.1 HZ.out.2.1.2 HB.out.1 (by rw [HZ.out.2.1.1]; exact HB.out.2.1) HZ.out.2.2.1⟩⟩
  · have hcz := code_nz hc
    have hcn : ((c : Int) != 0) = true := by rw [bne_iff_ne]; omega
    go_wp2_with fail
    refine k1.mono ?_
    rintro e w5 ⟨-, no5, q5⟩
    obtain rfl := no5 (by first | exact hc | omega)
    have k2 := ps_ropen q5 HZ.out.2.2.2 HNN.out.1 HN.out.2.2.1 HN.out.2.2.2.1
    rw [HRT.out] at k2
    clear k1 no5 q5
    go_wp2_with fail
    refine k2.mono ?_
    rintro e w6 ⟨rfl, q6⟩
    have HQ6 : Hid _ := q6
    clear k2 q6
    go_wp2_with fail
    go_ret
    exact ⟨rfl, ⟨_, _, Ps.qp (t0 := tr) HQ6.out HNN.out.2.1 HZ.out.1 HZ.out.2.1.2 HB.out.1 (by rw [HZ.out.2.1.1]; exact HB.out.2.1) HZ.out.2.2.1⟩⟩
end Go.Proofs.Ythegdhbmfojdaaa
