/- The contract of the reference's Within. -/
import Derived.Test.YtgdeongeonhlpaaRBag
namespace Go.Proofs.Ytgdeongeonhlpaa
open Go.RowKit Go.Sort

set_option maxHeartbeats 8000000 in
theorem refin_any (w : World) (v : Value) (l : List En) (F T : Int) (bb : Bool) (h : RdsM w v l) (hbig : l.length ≤ 900) :
    Calls Try.prog 23 #[v, .agg #[.int .i64 F, .int .i64 T], .bool bb] w fun e w' => ∃ v', e = .returned v' ∧ RdsM w' v' (inL F T bb l) ∧ Below w.heap.size w w' := by
  obtain ⟨i0, hi0, hy0, hy1, hy2⟩ := info_parts Try.info_many
  obtain ⟨W, hW⟩ : ∃ W, W = w.alloc (.cells #[.int .i64 F, .int .i64 T] 43) := ⟨_, rfl⟩
  have bW : Below w.heap.size w W := by rw [hW]; exact (Below.refl _ _).alloc (Nat.le_refl _) _
  have hbox : ∀ w5, Below W.heap.size W w5 → w5.cell? ⟨w.heap.size, 0, none⟩ = some (.int .i64 F) ∧ w5.cell? ⟨w.heap.size, 1, none⟩ = some (.int .i64 T) := fun w5 h5 => by
    have hlt5 : w.heap.size < W.heap.size := by rw [hW]; simp
    refine ⟨?_, ?_⟩ <;> (rw [h5.cell (by exact hlt5), hW]; simp)
  have kO := refown_any W v l (h.below bW) hbig
  rw [hW] at kO
  obtain ⟨ao, n, cap, rfl⟩ := h.sl
  have HBX : Aside _ := hbox
  have HW : Hid _ := hW
  have HBW : Hid (Below w.heap.size w W) := bW
  have HLL : Hid ((ownL l).length ≤ 900) := Nat.le_trans (ownL_len l) hbig
  clear h bW hW hbox hbig
  go_enter Try.func23, Try.ntmps23
  go_wp2_with fail
  refine kO.mono ?_
  rintro e wb ⟨vb, rfl, mb, bb1⟩
  rw [← HW.out] at bb1
  obtain ⟨ab, nb, cb, rfl⟩ := mb.sl
  obtain ⟨hnb, hb1, hb2⟩ := mb.len
  unfold maxLen at hb2
  have HM : Hid (RdsM wb (.slice ab nb cb) (ownL l)) := mb
  have HB : Hid (Below w.heap.size w wb) := HBW.out.trans (bb1.mono HBW.out.size)
  have HBB : Hid (Below W.heap.size W wb) := bb1
  have hnb9 : nb ≤ 900 := by have := HLL.out; omega
  obtain ⟨B, hB⟩ : ∃ B, B = ownL l := ⟨_, rfl⟩
  have HBe : Hid (inL F T bb l = B.filter fun e => inS F T e.f.t == bb) := by rw [hB]; rfl
  rw [← hB] at HM hnb
  have HNB : Hid (nb = B.length) := hnb
  have hws : w.heap.size ≤ wb.heap.size := HB.out.size
  clear hB hnb mb bb1 kO HLL
  go_wp2_with fail
  go_loopg [7, 9] nb (fun kx v5 v6 wr => ∃ (i m : Nat) (out : List En), v6 = .int .i64 i ∧ i ≤ nb ∧ nb - i ≤ kx ∧ m ≤ i ∧ wr.ownsRow wb.heap.size 46 4 v5 m (ev out) ∧ Hid (m = out.length ∧ out = (B.take i).filter fun e => inS F T e.f.t == bb) ∧ Below wb.heap.size wb wr)
  case atStart => exact ⟨0, 0, [], rfl, by omega, Nat.le_refl _, Nat.le_refl _, World.ownsRow_nil _ _ _ _, ⟨rfl, by simp⟩, Below.refl _ _⟩
  case round =>
    obtain ⟨i, m, out, rfl, hin, hkx, hmi, own, HX, bel⟩ := hrel
    by_cases hlt : i < nb
    · have hltz : (i : Int) < (nb : Int) := by omega
      have hil : i < B.length := by have := HNB.out; omega
      have hr := RdsM.below HM.out bel
      obtain ⟨-, -, -, b, off, rfl, hcl⟩ := hr.at (by omega)
      obtain ⟨q0, q1, q2, q3⟩ := hcl i hil
      have ox := hr.ok B[i] (List.getElem_mem hil)
      have htk : B.take (i + 1) = B.take i ++ [B[i]] := List.take_succ_eq_append_getElem hil
      generalize B[i] = x at *
      obtain ⟨aD, nD, cD, hD⟩ := ox.f.rd.sl
      obtain ⟨aM, nM, cM, hM⟩ := ox.f.rm.sl
      have HOX : Hid (x.Ok wr) := ox
      have HT : Hid _ := htk
      obtain ⟨a5, n5, c5, rfl⟩ := own_sl own
      rw [hD] at q1
      rw [hM] at q2
      have HD : Hid (x.f.dv = .slice aD nD cD ∧ x.f.mv = .slice aM nM cM) := ⟨hD, hM⟩
      clear ox hr hcl htk hD hM
      obtain ⟨g0, g1⟩ := HBX.out wr (HBB.out.trans (bel.mono HBB.out.size))
      by_cases hF : F ≤ x.f.t
      · have hFd : decide (F ≤ x.f.t) = true := decide_eq_true hF
        by_cases hT : x.f.t < T
        · have hTd : decide (x.f.t < T) = true := decide_eq_true hT
          have HS : Hid (inS F T x.f.t = true) := by unfold inS; exact decide_eq_true ⟨hF, hT⟩
          cases bb with
          | true =>
            have rone := one_rds wr x _ rfl
            rw [HD.out.1, HD.out.2] at rone
            have HR : Hid (RdsK 4 (wr.alloc (.cells #[.int .i64 x.f.t, .slice aD nD cD, .slice aM nM cM, .int .u64 x.n] 46)) (.slice (some ⟨wr.heap.size, 0, none⟩) 1 1) 1 (ev [x])) := rone
            have HOO : Aside (∀ u ∈ ev [x], u.oneCell' = true) := ev_one (w := wr) fun e he => by
              simp only [List.mem_singleton] at he
              subst he
              exact HOX.out
            have HO5 : Hid ((wr.alloc (.cells #[.int .i64 x.f.t, .slice aD nD cD, .slice aM nM cM, .int .u64 x.n] 46)).ownsRow wb.heap.size 46 4 (.slice a5 n5 c5) m (ev out)) := own.alloc _
            have HB5 : Hid (Below wb.heap.size wb (wr.alloc (.cells #[.int .i64 x.f.t, .slice aD nD cD, .slice aM nM cM, .int .u64 x.n] 46))) := bel.alloc bel.size _
            have hza : m + 1 ≤ maxLen := by unfold maxLen; omega
            have hzb' : ((m + 1) + (m + 1) / 4 + 192) * 64 ≤ 281474976710656 := by omega
            have hws5 : wb.heap.size ≤ (wr.alloc (.cells #[.int .i64 x.f.t, .slice aD nD cD, .slice aM nM cM, .int .u64 x.n] 46)).heap.size := HB5.out.size
            clear rone own bel
            go_wp2_with (first
              | (at_builtin; refine wpList_appK rfl _ _ 36 rfl wb.heap.size 46 i0 (.agg #[.int .i64 0, .slice none 0 0, .slice none 0 0, .int .u64 0]) 4 64 Try.underlying36 hi0 hy0 hy1 hy2 rfl (by decide) _ _ _ rfl HO5.out _ _ _ rfl HR.out HOO.out hza hzb' hws5 ?_; intro v7 w7 hown7 hgrow7 hnil7))
            go_roundg (nb - (i + 1))
            case measure => omega
            case rel =>
              obtain ⟨x1, x2⟩ := HX.out
              refine ⟨i + 1, m + 1, out ++ [x], by go_num, by omega, Nat.le_refl _, by omega, by rw [ev_app]; exact hown7, ⟨by simp; omega, ?_⟩, HB5.out.grown hgrow7 hws5 fun k hk => (World.ownsRow.lt HO5.out k hk).1⟩
              rw [HT.out, List.filter_append, ← x2]
              simp [HS.out]
          | false =>
            have HOW : Hid (wr.ownsRow wb.heap.size 46 4 (.slice a5 n5 c5) m (ev out)) := own
            clear own
            go_wp2_with fail
            go_roundg (nb - (i + 1))
            case measure => omega
            case rel =>
              obtain ⟨x1, x2⟩ := HX.out
              refine ⟨i + 1, m, out, by go_num, by omega, Nat.le_refl _, by omega, HOW.out, ⟨x1, ?_⟩, bel⟩
              rw [HT.out, List.filter_append, ← x2]
              simp [HS.out]
        · have hTd : decide (x.f.t < T) = false := decide_eq_false hT
          have HS : Hid (inS F T x.f.t = false) := by unfold inS; exact decide_eq_false fun h => hT h.2
          cases bb with
          | true =>
            have HOW : Hid (wr.ownsRow wb.heap.size 46 4 (.slice a5 n5 c5) m (ev out)) := own
            clear own
            go_wp2_with fail
            go_roundg (nb - (i + 1))
            case measure => omega
            case rel =>
              obtain ⟨x1, x2⟩ := HX.out
              refine ⟨i + 1, m, out, by go_num, by omega, Nat.le_refl _, by omega, HOW.out, ⟨x1, ?_⟩, bel⟩
              rw [HT.out, List.filter_append, ← x2]
              simp [HS.out]
          | false =>
            have rone := one_rds wr x _ rfl
            rw [HD.out.1, HD.out.2] at rone
            have HR : Hid (RdsK 4 (wr.alloc (.cells #[.int .i64 x.f.t, .slice aD nD cD, .slice aM nM cM, .int .u64 x.n] 46)) (.slice (some ⟨wr.heap.size, 0, none⟩) 1 1) 1 (ev [x])) := rone
            have HOO : Aside (∀ u ∈ ev [x], u.oneCell' = true) := ev_one (w := wr) fun e he => by
              simp only [List.mem_singleton] at he
              subst he
              exact HOX.out
            have HO5 : Hid ((wr.alloc (.cells #[.int .i64 x.f.t, .slice aD nD cD, .slice aM nM cM, .int .u64 x.n] 46)).ownsRow wb.heap.size 46 4 (.slice a5 n5 c5) m (ev out)) := own.alloc _
            have HB5 : Hid (Below wb.heap.size wb (wr.alloc (.cells #[.int .i64 x.f.t, .slice aD nD cD, .slice aM nM cM, .int .u64 x.n] 46))) := bel.alloc bel.size _
            have hza : m + 1 ≤ maxLen := by unfold maxLen; omega
            have hzb' : ((m + 1) + (m + 1) / 4 + 192) * 64 ≤ 281474976710656 := by omega
            have hws5 : wb.heap.size ≤ (wr.alloc (.cells #[.int .i64 x.f.t, .slice aD nD cD, .slice aM nM cM, .int .u64 x.n] 46)).heap.size := HB5.out.size
            clear rone own bel
            go_wp2_with (first
              | (at_builtin; refine wpList_appK rfl _ _ 36 rfl wb.heap.size 46 i0 (.agg #[.int .i64 0, .slice none 0 0, .slice none 0 0, .int .u64 0]) 4 64 Try.underlying36 hi0 hy0 hy1 hy2 rfl (by decide) _ _ _ rfl HO5.out _ _ _ rfl HR.out HOO.out hza hzb' hws5 ?_; intro v7 w7 hown7 hgrow7 hnil7))
            go_roundg (nb - (i + 1))
            case measure => omega
            case rel =>
              obtain ⟨x1, x2⟩ := HX.out
              refine ⟨i + 1, m + 1, out ++ [x], by go_num, by omega, Nat.le_refl _, by omega, by rw [ev_app]; exact hown7, ⟨by simp; omega, ?_⟩, HB5.out.grown hgrow7 hws5 fun k hk => (World.ownsRow.lt HO5.out k hk).1⟩
              rw [HT.out, List.filter_append, ← x2]
              simp [HS.out]
      · have hFd : decide (F ≤ x.f.t) = false := decide_eq_false hF
        have HS : Hid (inS F T x.f.t = false) := by unfold inS; exact decide_eq_false fun h => hF h.1
        cases bb with
        | true =>
          have HOW : Hid (wr.ownsRow wb.heap.size 46 4 (.slice a5 n5 c5) m (ev out)) := own
          clear own
          go_wp2_with fail
          go_roundg (nb - (i + 1))
          case measure => omega
          case rel =>
            obtain ⟨x1, x2⟩ := HX.out
            refine ⟨i + 1, m, out, by go_num, by omega, Nat.le_refl _, by omega, HOW.out, ⟨x1, ?_⟩, bel⟩
            rw [HT.out, List.filter_append, ← x2]
            simp [HS.out]
        | false =>
          have rone := one_rds wr x _ rfl
          rw [HD.out.1, HD.out.2] at rone
          have HR : Hid (RdsK 4 (wr.alloc (.cells #[.int .i64 x.f.t, .slice aD nD cD, .slice aM nM cM, .int .u64 x.n] 46)) (.slice (some ⟨wr.heap.size, 0, none⟩) 1 1) 1 (ev [x])) := rone
          have HOO : Aside (∀ u ∈ ev [x], u.oneCell' = true) := ev_one (w := wr) fun e he => by
            simp only [List.mem_singleton] at he
            subst he
            exact HOX.out
          have HO5 : Hid ((wr.alloc (.cells #[.int .i64 x.f.t, .slice aD nD cD, .slice aM nM cM, .int .u64 x.n] 46)).ownsRow wb.heap.size 46 4 (.slice a5 n5 c5) m (ev out)) := own.alloc _
          have HB5 : Hid (Below wb.heap.size wb (wr.alloc (.cells #[.int .i64 x.f.t, .slice aD nD cD, .slice aM nM cM, .int .u64 x.n] 46))) := bel.alloc bel.size _
          have hza : m + 1 ≤ maxLen := by unfold maxLen; omega
          have hzb' : ((m + 1) + (m + 1) / 4 + 192) * 64 ≤ 281474976710656 := by omega
          have hws5 : wb.heap.size ≤ (wr.alloc (.cells #[.int .i64 x.f.t, .slice aD nD cD, .slice aM nM cM, .int .u64 x.n] 46)).heap.size := HB5.out.size
          clear rone own bel
          go_wp2_with (first
            | (at_builtin; refine wpList_appK rfl _ _ 36 rfl wb.heap.size 46 i0 (.agg #[.int .i64 0, .slice none 0 0, .slice none 0 0, .int .u64 0]) 4 64 Try.underlying36 hi0 hy0 hy1 hy2 rfl (by decide) _ _ _ rfl HO5.out _ _ _ rfl HR.out HOO.out hza hzb' hws5 ?_; intro v7 w7 hown7 hgrow7 hnil7))
          go_roundg (nb - (i + 1))
          case measure => omega
          case rel =>
            obtain ⟨x1, x2⟩ := HX.out
            refine ⟨i + 1, m + 1, out ++ [x], by go_num, by omega, Nat.le_refl _, by omega, by rw [ev_app]; exact hown7, ⟨by simp; omega, ?_⟩, HB5.out.grown hgrow7 hws5 fun k hk => (World.ownsRow.lt HO5.out k hk).1⟩
            rw [HT.out, List.filter_append, ← x2]
            simp [HS.out]
    · have hltz : ¬ (i : Int) < (nb : Int) := by omega
      obtain ⟨x1, x2⟩ := HX.out
      rw [List.take_of_length_le (by have := HNB.out; omega)] at x2
      have hm : RdsM wr u7 out := ⟨by rw [← x1]; exact RdsK.of_own own, fun e he => (HM.out.ok e (by rw [x2] at he; exact (List.mem_filter.1 he).1)).below bel⟩
      have HMM : Hid (RdsM wr u7 out ∧ out = inL F T bb l ∧ Below w.heap.size w wr) := ⟨hm, by rw [HBe.out]; exact x2, HB.out.trans (bel.mono hws)⟩
      obtain ⟨a5, n5, c5, rfl⟩ := own_sl own
      clear hm own x1 x2 HX bel
      go_wp2_with fail
      go_ret
      obtain ⟨z1, z2, z3⟩ := HMM.out
      exact ⟨_, rfl, by rw [← z2]; exact z1, z3⟩
end Go.Proofs.Ytgdeongeonhlpaa
