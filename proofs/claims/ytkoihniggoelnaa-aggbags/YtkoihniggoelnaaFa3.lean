/- What the texts of fact hold, over this program's numbers. -/
import Derived.Test.YtkoihniggoelnaaFa2
namespace Go.Proofs.Ytkoihniggoelnaa.Fa
open Go.RowKit Go.Sort

theorem foldl_take {α β : Type} (g : β → α → β) (b : β) (l : List α) (i : Nat) (hi : i < l.length) : (l.take (i + 1)).foldl g b = g ((l.take i).foldl g b) l[i] := by
  rw [List.take_succ_eq_append_getElem hi, List.foldl_append]; rfl

set_option maxHeartbeats 8000000 in
theorem refown_any (w : World) (v : Value) (l : List En) (h : RdsM w v l) (hbig : l.length ≤ 900) :
    Calls Try.prog 24 #[v] w fun e w' => ∃ v', e = .returned v' ∧ RdsM w' v' (ownL l) ∧ Below w.heap.size w w' := by
  obtain ⟨i0, hi0, hy0, hy1, hy2⟩ := info_parts Try.info_many
  obtain ⟨ao, n, cap, rfl⟩ := h.sl
  obtain ⟨hn, hc1, hc2⟩ := h.len
  unfold maxLen at hc2
  have HN : Hid (n = l.length) := hn
  have HH : Hid (RdsM w (.slice ao n cap) l) := h
  have hn9 : n ≤ 900 := by omega
  have mixed := (show Try.prog.follows .mixedOrders = true by kernel_rfl)
  clear h hn hbig
  go_enter Try.func24, Try.ntmps24
  go_upto_block 0 with fail
  go_cut [3] (fun v3 wx => Hid (RdsM wx v3 (putAll l)) ∧ Hid (Below w.heap.size w wx))
  case first =>
    go_wp2_with fail
    go_loopg [3, 4] n (fun kx v3 v4 wr => ∃ i : Nat, v4 = .int .i64 i ∧ i ≤ n ∧ n - i ≤ kx ∧ Hid (RdsM wr v3 (putAll (l.take i))) ∧ Hid (Below w.heap.size w wr))
    case atStart => exact ⟨0, rfl, by omega, Nat.le_refl _, RdsM.nil _, Below.refl _ _⟩
    case round =>
      obtain ⟨i, rfl, hi, hkx, HM, HB⟩ := hrel
      by_cases hlt : i < n
      · have hltz : (i : Int) < (n : Int) := by omega
        have hil : i < l.length := by have := HN.out; omega
        have hr := RdsM.below HH.out HB.out
        obtain ⟨-, -, -, b, off, rfl, hcell⟩ := hr.at (by omega)
        obtain ⟨q0, q1, q2, q3⟩ := hcell i hil
        have ok := hr.ok l[i] (List.getElem_mem hil)
        have bd : Below wr.heap.size wr wr.drew := below_dN (Below.refl _ _) 1
        have kP := put_any wr.drew u3 (putAll (l.take i)) l[i].f l[i].n (HM.out.below bd) (ok.f.below bd) ok.n (by have := foldl_len (l.take i) []; rw [List.length_take] at this; simp only [List.length_nil] at this; unfold putAll; omega)
        have HT : Hid (putL (putAll (l.take i)) l[i].f l[i].n = putAll (l.take (i + 1))) := (foldl_take (fun b (e : En) => putL b e.f e.n) _ l i hil).symm
        rw [HT.out] at kP
        obtain ⟨a3, n3, c3, rfl⟩ := HM.out.sl
        obtain ⟨aD, nD, cD, hD⟩ := ok.f.rd.sl
        obtain ⟨aM, nM, cM, hM⟩ := ok.f.rm.sl
        rw [hD, hM] at kP
        rw [hD] at q1
        rw [hM] at q2
        generalize l[i].f.t = tt at q0 kP
        generalize l[i].n = nn at q3 kP
        have HBD : Hid (Below w.heap.size w wr.drew) := HB.out.trans (bd.mono HB.out.size)
        clear ok hr hcell hD hM HT bd
        go_wp2_with fail
        go_region_with (first | (go_at_call 30; with_reducible refine kP.mono ?_; rintro e w5 ⟨v5, rfl, m5, b5⟩; obtain ⟨a5, n5, c5, rfl⟩ := m5.sl))
        all_goals
          have HM6 : Hid _ := m5
          have HB6 : Hid (Below w.heap.size w w5) := HBD.out.trans (b5.mono HBD.out.size)
          clear m5 b5 kP HBD
          go_wp2_with fail
          go_roundg (n - (i + 1))
          case measure => omega
          case rel => exact ⟨i + 1, by go_num, by omega, Nat.le_refl _, HM6, HB6⟩
      · have hltz : ¬ (i : Int) < (n : Int) := by omega
        obtain ⟨a3, n3, c3, rfl⟩ := HM.out.sl
        go_wp2_with fail
        go_meet
        case rel =>
          have := HM.out
          rw [List.take_of_length_le (by have := HN.out; omega)] at this
          exact ⟨this, HB.out⟩
  case rest =>
    rename World => wb
    obtain ⟨HM, HB⟩ := hcut
    rename Value => vb
    obtain ⟨ab, nb, cb, rfl⟩ := HM.out.sl
    obtain ⟨hnb, hb1, hb2⟩ := HM.out.len
    unfold maxLen at hb2
    have hnb9 : nb ≤ 900 := by have h1 := foldl_len l []; simp only [List.length_nil] at h1; have h2 := HN.out; unfold putAll at hnb; omega
    have HNB : Hid (nb = (putAll l).length) := hnb
    obtain ⟨B, hB⟩ : ∃ B, B = putAll l := ⟨_, rfl⟩
    have HBe : Hid (ownL l = B.filter fun e => decide (e.n ≠ 0)) := by rw [hB]; rfl
    rw [← hB] at HM HNB
    clear hB hnb
    have hws : w.heap.size ≤ wb.heap.size := HB.out.size
    go_wp2_with fail
    go_loopg [5, 6] nb (fun kx v5 v6 wr => ∃ (i m : Nat) (out : List En), v6 = .int .i64 i ∧ i ≤ nb ∧ nb - i ≤ kx ∧ m ≤ i ∧ wr.ownsRow wb.heap.size 49 4 v5 m (ev out) ∧ Hid (m = out.length ∧ out = (B.take i).filter fun e => decide (e.n ≠ 0)) ∧ Below wb.heap.size wb wr)
    case atStart => exact ⟨0, 0, [], rfl, by omega, Nat.le_refl _, Nat.le_refl _, World.ownsRow_nil _ _ _ _, ⟨rfl, by simp⟩, Below.refl _ _⟩
    case round =>
      obtain ⟨i, m, out, rfl, hin, hkx, hmi, own, HX, bel⟩ := hrel
      by_cases hlt : i < nb
      · have hltz : (i : Int) < (nb : Int) := by omega
        have hil : i < B.length := by have := HNB.out; omega
        have hr := RdsM.below HM.out bel
        obtain ⟨-, -, -, b, off, rfl, hcl⟩ := hr.at (by omega)
        obtain ⟨q0, q1, q2, q3⟩ := hcl i hil
        have ox := hr.ok B[i] (List.getElem_mem hil)
        have htk : B.take (i + 1) = B.take i ++ [B[i]] := List.take_succ_eq_append_getElem hil
        generalize B[i] = x at *
        obtain ⟨aD, nD, cD, hD⟩ := ox.f.rd.sl
        obtain ⟨aM, nM, cM, hM⟩ := ox.f.rm.sl
        have HOX : Hid (x.Ok wr) := ox
        have HT : Hid _ := htk
        obtain ⟨a5, n5, c5, rfl⟩ := own_sl own
        rw [hD] at q1
        rw [hM] at q2
        have HD : Hid (x.f.dv = .slice aD nD cD ∧ x.f.mv = .slice aM nM cM) := ⟨hD, hM⟩
        clear ox hr hcl htk hD hM
        by_cases hz : x.n = 0
        · have hzb : ((x.n : Int) != 0) = false := by simp [hz]
          have HZ : Hid (x.n = 0) := hz
          have HOW : Hid (wr.ownsRow wb.heap.size 49 4 (.slice a5 n5 c5) m (ev out)) := own
          clear hz own
          go_wp2_with fail
          go_roundg (nb - (i + 1))
          case measure => omega
          case rel =>
            obtain ⟨x1, x2⟩ := HX.out
            refine ⟨i + 1, m, out, by go_num, by omega, Nat.le_refl _, by omega, HOW.out, ⟨x1, ?_⟩, bel⟩
            rw [HT.out, List.filter_append, ← x2]
            simp [HZ.out]
        · have hzb : ((x.n : Int) != 0) = true := by simp; omega
          have HZ : Hid (¬ x.n = 0) := hz
          clear hz
          have rone := one_rds wr x _ rfl
          rw [HD.out.1, HD.out.2] at rone
          have HR : Hid (RdsK 4 (wr.alloc (.cells #[.int .i64 x.f.t, .slice aD nD cD, .slice aM nM cM, .int .u64 x.n] 49)) (.slice (some ⟨wr.heap.size, 0, none⟩) 1 1) 1 (ev [x])) := rone
          have HOO : Aside (∀ u ∈ ev [x], u.oneCell' = true) := ev_one (w := wr) fun e he => by
            simp only [List.mem_singleton] at he
            subst he
            exact HOX.out
          have HO5 : Hid ((wr.alloc (.cells #[.int .i64 x.f.t, .slice aD nD cD, .slice aM nM cM, .int .u64 x.n] 49)).ownsRow wb.heap.size 49 4 (.slice a5 n5 c5) m (ev out)) := own.alloc _
          have HB5 : Hid (Below wb.heap.size wb (wr.alloc (.cells #[.int .i64 x.f.t, .slice aD nD cD, .slice aM nM cM, .int .u64 x.n] 49))) := bel.alloc bel.size _
          have hza : m + 1 ≤ maxLen := by unfold maxLen; omega
          have hzb' : ((m + 1) + (m + 1) / 4 + 192) * 64 ≤ 281474976710656 := by omega
          have hws5 : wb.heap.size ≤ (wr.alloc (.cells #[.int .i64 x.f.t, .slice aD nD cD, .slice aM nM cM, .int .u64 x.n] 49)).heap.size := HB5.out.size
          clear rone own bel
          go_wp2_with (first
            | (at_builtin; refine wpList_appK rfl _ _ 36 rfl wb.heap.size 49 i0 (.agg #[.int .i64 0, .slice none 0 0, .slice none 0 0, .int .u64 0]) 4 64 Try.underlying36 hi0 hy0 hy1 hy2 rfl (by decide) _ _ _ rfl HO5.out _ _ _ rfl HR.out HOO.out hza hzb' hws5 ?_; intro v7 w7 hown7 hgrow7 hnil7))
          go_roundg (nb - (i + 1))
          case measure => omega
          case rel =>
            obtain ⟨x1, x2⟩ := HX.out
            refine ⟨i + 1, m + 1, out ++ [x], by go_num, by omega, Nat.le_refl _, by omega, by rw [ev_app]; exact hown7, ⟨by simp; omega, ?_⟩, HB5.out.grown hgrow7 hws5 fun k hk => (World.ownsRow.lt HO5.out k hk).1⟩
            rw [HT.out, List.filter_append, ← x2]
            simp [HZ.out]
      · have hltz : ¬ (i : Int) < (nb : Int) := by omega
        obtain ⟨x1, x2⟩ := HX.out
        rw [List.take_of_length_le (by have := HNB.out; omega)] at x2
        have hm : RdsM wr u5 out := ⟨by rw [← x1]; exact RdsK.of_own own, fun e he => (HM.out.ok e (by rw [x2] at he; exact (List.mem_filter.1 he).1)).below bel⟩
        have HMM : Hid (RdsM wr u5 out ∧ out = ownL l ∧ Below w.heap.size w wr) := ⟨hm, by rw [HBe.out]; exact x2, HB.out.trans (bel.mono hws)⟩
        obtain ⟨a5, n5, c5, rfl⟩ := own_sl own
        clear hm own x1 x2 HX bel
        go_wp2_with fail
        go_ret
        obtain ⟨z1, z2, z3⟩ := HMM.out
        exact ⟨_, rfl, by rw [← z2]; exact z1, z3⟩

end Go.Proofs.Ytkoihniggoelnaa.Fa
