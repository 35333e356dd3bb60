/- The contract of the reference's Depth. -/
import Derived.Test.YtlfkhinmncbkcaaRPart
import Derived.Test.YtlfkhinmncbkcaaFcx
namespace Go.Proofs.Ytlfkhinmncbkcaa
open Go.RowKit Go.Sort

set_option maxHeartbeats 4000000 in
theorem refdepth_any : ∀ (N : Nat) (t : Tr), SizeOf.sizeOf t < N → ∀ (w : World), t.Ok w → t.sz ≤ 1000 →
    Calls Try.prog 22 #[.agg #[.int .i64 t.k, .int .i64 t.d, t.tv, .int .i64 t.lo, .int .i64 t.hi, t.kv]] w fun e w' => e = .returned (.int .i64 ((t.dp : Nat) : Int)) ∧ Grows w w' := by
  intro N
  induction N with
  | zero => intro t ht; omega
  | succ N ih =>
    intro t ht w h hs
    obtain ⟨at', nt, ct, ak, nk, ck, e1, e2, -, -, -, -⟩ := h.lens
    obtain ⟨W, hW⟩ : ∃ W, W = w.alloc (.cells #[.int .i64 t.k, .int .i64 t.d, t.tv, .int .i64 t.lo, .int .i64 t.hi, t.kv] 27) := ⟨_, rfl⟩
    have gW : Grows w W := by rw [hW]; exact Grows.alloc _ _
    have kK := refkids_any W t (h.up gW.below)
    have HG : Hid (Grows w W) := gW
    have HW : Hid _ := hW
    have HO : Hid (t.Ok W ∧ t.sz ≤ 1000 ∧ SizeOf.sizeOf t < N + 1) := ⟨h.up gW.below, hs, ht⟩
    have HI : Aside _ := ih
    rw [hW, e1, e2] at kK
    rw [e1, e2] at HW ⊢
    clear h gW hW e1 e2 ih ht hs
    go_enter Try.func22, Try.ntmps22
    go_wp2_with fail
    refine kK.mono ?_
    rintro e V ⟨rfl, gV⟩
    rw [← HW.out] at gV
    have rk := (HO.out.1.up gV.below).rkids
    obtain ⟨a6, n6, c6, e6⟩ := rk.sl
    rw [e6] at rk ⊢
    obtain ⟨hn6, hc6, hc7⟩ := rk.len
    unfold maxLen at hc7
    have HN6 : Hid (n6 = t.kids.length) := hn6
    have HRK : Hid (RdsT V (.slice a6 n6 c6) t.kids) := rk
    have HGV : Hid (Grows w V) := HG.out.trans gV
    clear kK gV rk hn6 e6
    go_wp2_with fail
    go_loopg [3, 5] n6 (fun kx v3 v5 wr => ∃ (i c : Nat), v5 = .int .i64 i ∧ v3 = .int .i64 c ∧ i ≤ n6 ∧ n6 - i ≤ kx ∧ c ≤ 1000 ∧ Hid (c = dpL (t.kids.take i)) ∧ Hid (Grows V wr))
    case atStart => exact ⟨0, 0, rfl, rfl, by omega, Nat.le_refl _, by omega, (show (0 : Nat) = dpL (t.kids.take 0) by simp [dpL]), Grows.refl _⟩
    case round =>
      obtain ⟨i, c, rfl, rfl, hi, hkx, hcL, HC, HGr⟩ := hrel
      by_cases hlt : i < n6
      · have hltz : (i : Int) < (n6 : Int) := by omega
        have hil : i < t.kids.length := by have := HN6.out; omega
        have hr := RdsT.below HRK.out HGr.out.below
        obtain ⟨b, off, rfl, hcell⟩ := hr.at (by omega)
        obtain ⟨q0, q1, q2, q3, q4, q5⟩ := hcell i hil
        have ok := hr.ok t.kids[i] (List.getElem_mem hil)
        have hlt' := kids_lt (List.getElem_mem hil)
        have htk := dpL_take t.kids i hil
        have hzz : t.kids[i].sz ≤ szL t.kids := by
          have h1 := szL_take t.kids i hil
          have h2 : szL (t.kids.take (i + 1)) ≤ szL t.kids := by
            conv => rhs; rw [← List.take_append_drop (i + 1) t.kids]
            unfold szL; rw [List.map_append, List.sum_append]; omega
          omega
        have hts := t.sz_eq
        generalize t.kids[i] = x at *
        have kR := HI.out x (by have := HO.out.2.2; omega) wr ok (by have := HO.out.2.1; omega)
        have hds := dp_le_sz x
        obtain ⟨at5, nt5, ct5, ak5, nk5, ck5, f1, f2, -, -, -, -⟩ := ok.lens
        rw [f1] at q2
        rw [f2] at q5
        rw [f1, f2] at kR
        obtain ⟨S, hS⟩ : ∃ S, S = x.dp := ⟨_, rfl⟩
        rw [← hS] at kR htk hds
        have hS1 : S ≤ 1000 := by have := HO.out.2.1; omega
        have HT : Hid _ := htk
        generalize x.k = xk at *
        generalize x.d = xd at *
        generalize x.lo = xl at *
        generalize x.hi = xh at *
        clear ok hlt' htk hzz hts hr hcell f1 f2 hds hS
        go_wp2_with fail
        refine kR.mono ?_
        rintro e w6 ⟨rfl, g6⟩
        clear kR q0 q1 q2 q3 q4 q5
        by_cases hcS : (c : Int) < (S : Int)
        · go_wp2_with fail
          go_roundg (n6 - (i + 1))
          case measure => omega
          case rel =>
            refine ⟨i + 1, S, by go_num, rfl, by omega, Nat.le_refl _, hS1, ?_, HGr.out.trans g6⟩
            show _ = _
            rw [HT.out, ← HC.out]; omega
        · go_wp2_with fail
          go_roundg (n6 - (i + 1))
          case measure => omega
          case rel =>
            refine ⟨i + 1, c, by go_num, rfl, by omega, Nat.le_refl _, hcL, ?_, HGr.out.trans g6⟩
            show _ = _
            rw [HT.out, ← HC.out]; omega
      · have hltz : ¬ (i : Int) < (n6 : Int) := by omega
        have HD : Hid ((t.dp : Nat) = c + 1) := by
          show _ = _
          have h1 := HC.out
          rw [List.take_of_length_le (by have := HN6.out; omega)] at h1
          rw [t.dp_eq, ← h1]; omega
        go_wp2_with fail
        go_ret
        exact ⟨ret_int (by rw [HD.out]; omega), HGV.out.trans HGr.out⟩
end Go.Proofs.Ytlfkhinmncbkcaa
