/- Contracts of deepest, Size, tooGreat, within, tooLong. -/
import Derived.Test.YtlfkhinmncbkcaaCount
namespace Go.Proofs.Ytlfkhinmncbkcaa
open Go.RowKit Go.Sort

set_option maxHeartbeats 4000000 in
theorem deepest_any : ∀ (N : Nat) (l : List Tr), (∀ t ∈ l, SizeOf.sizeOf t < N) → ∀ (w : World) (v : Value), RdsT w v l → szL l ≤ 1000 →
    Calls Try.prog 23 #[v] w fun e w' => e = .returned (.int .i64 ((dpL l : Nat) : Int)) ∧ Grows w w' := by
  intro N
  induction N with
  | zero =>
    intro l hl w v h hs
    have : l = [] := by
      cases l with
      | nil => rfl
      | cons t l => have := hl t (by simp); omega
    subst this
    obtain ⟨ao, n, cap, rfl⟩ := h.sl
    obtain ⟨hn, -, -⟩ := h.len
    simp only [List.length_nil] at hn
    subst hn
    go_enter Try.func23, Try.ntmps23
    go_wp2_with fail
    go_loopg [3, 8] 0 (fun kx v5 v10 wr => v5 = .int .i64 0 ∧ v10 = .int .i64 0 ∧ Hid (Grows w wr))
    case atStart => exact ⟨rfl, rfl, Grows.refl _⟩
    case round =>
      obtain ⟨rfl, rfl, HG⟩ := hrel
      go_wp2_with fail
      go_ret
      exact ⟨ret_int (by simp [dpL]), HG.out⟩
  | succ N ih =>
    intro l hl w v h hs
    obtain ⟨ao, n, cap, rfl⟩ := h.sl
    obtain ⟨hn, hc1, hc2⟩ := h.len
    unfold maxLen at hc2
    have HN : Hid (n = l.length) := hn
    have HH : Hid (RdsT w (.slice ao n cap) l) := h
    have HI : Aside _ := ih
    have HL : Aside (∀ t ∈ l, SizeOf.sizeOf t < N + 1) := hl
    have HZ : Hid (szL l ≤ 1000) := hs
    clear h hn ih hl hs
    go_enter Try.func23, Try.ntmps23
    go_wp2_with fail
    go_loopg [3, 8] n (fun kx v5 v10 wr => ∃ i c : Nat, v10 = .int .i64 i ∧ v5 = .int .i64 c ∧ i ≤ n ∧ n - i ≤ kx ∧ c ≤ 1000 ∧ Hid (c = dpL (l.take i)) ∧ Hid (Grows w wr))
    case atStart => exact ⟨0, 0, rfl, rfl, by omega, Nat.le_refl _, by omega, (show (0 : Nat) = dpL (l.take 0) by simp [dpL]), Grows.refl _⟩
    case round =>
      obtain ⟨i, c, rfl, rfl, hi, hkx, hcL, HC, HG⟩ := hrel
      by_cases hlt : i < n
      · have hltz : (i : Int) < (n : Int) := by omega
        have hil : i < l.length := by have := HN.out; omega
        have hr := RdsT.below HH.out HG.out.below
        obtain ⟨b, off, rfl, hcell⟩ := hr.at (by omega)
        obtain ⟨q0, q1, q2, q3, q4, q5⟩ := hcell i hil
        have ok := hr.ok l[i] (List.getElem_mem hil)
        have hsz := HL.out l[i] (List.getElem_mem hil)
        have htk := dpL_take l i hil
        have hzz : l[i].sz ≤ szL l := by
          have h1 := szL_take l i hil
          have h2 : szL (l.take (i + 1)) ≤ szL l := by
            conv => rhs; rw [← List.take_append_drop (i + 1) l]
            unfold szL; rw [List.map_append, List.sum_append]; omega
          omega
        generalize l[i] = x at *
        have HT : Hid _ := htk
        have HX : Hid (x.Ok wr ∧ SizeOf.sizeOf x < N + 1 ∧ x.sz ≤ 1000) := ⟨ok, hsz, Nat.le_trans hzz HZ.out⟩
        obtain ⟨at', nt, ct, ak, nk, ck, e1, e2, -, -, -, -⟩ := ok.lens
        rw [e1] at q2
        rw [e2] at q5
        obtain ⟨W, hW⟩ : ∃ W, W = wr.alloc (.cells #[.int .i64 x.k, .int .i64 x.d, x.tv, .int .i64 x.lo, .int .i64 x.hi, x.kv] 27) := ⟨_, rfl⟩
        have gW : Grows wr W := by rw [hW]; exact Grows.alloc _ _
        have kK := kids_any W x (ok.up gW.below)
        rw [hW, e1, e2] at kK
        have HW : Hid _ := hW
        rw [e1, e2] at HW
        have HGW : Hid (Grows wr W) := gW
        clear ok hsz htk hcell hr e1 e2 hW gW hzz
        go_wp2_with fail
        refine kK.mono ?_
        rintro e w5 ⟨rfl, g5⟩
        rw [← HW.out] at g5
        have hk5 := (HX.out.1.up (HGW.out.trans g5).below).kids
        have hxs := x.sz_eq
        have kC := HI.out x.kids (fun t ht => by have := kids_lt ht; have := HX.out.2.1; omega) w5 x.kidv hk5 (by have := HX.out.2.2; omega)
        obtain ⟨a5, n5, c5, e5⟩ := hk5.sl
        rw [e5] at kC ⊢
        have hxd := x.dp_eq
        have hds := dp_le_sz x
        obtain ⟨S, hS⟩ : ∃ S, S = dpL x.kids := ⟨_, rfl⟩
        rw [← hS] at kC hxd
        have hS1 : S ≤ 1000 := by have := HX.out.2.2; omega
        have HS : Hid (x.dp = 1 + S) := hxd
        have HG5 : Hid (Grows wr w5) := HGW.out.trans g5
        obtain ⟨K, hK⟩ : ∃ K : Nat, K = max c (1 + S) := ⟨_, rfl⟩
        have hKz : max (c : Int) (1 + (S : Int)) = (K : Int) := by omega
        have hK1 : K ≤ 1000 := by have := HX.out.2.2; omega
        have HK : Hid (K = max c (1 + S)) := hK
        clear kK g5 hk5 e5 hS hxs hxd hds hK
        go_wp2_with fail
        refine kC.mono ?_
        rintro e w6 ⟨rfl, g6⟩
        clear kC
        go_wp2_with fail
        go_roundg (n - (i + 1))
        case measure => omega
        case rel =>
          refine ⟨i + 1, K, by go_num, by go_num, by omega, Nat.le_refl _, hK1, ?_, (HG.out.trans HG5.out).trans g6⟩
          show _ = _
          rw [HK.out, HT.out, HC.out, HS.out]
      · have hltz : ¬ (i : Int) < (n : Int) := by omega
        go_wp2_with fail
        go_ret
        have h1 := HC.out
        rw [List.take_of_length_le (by have := HN.out; omega)] at h1
        exact ⟨ret_int (by rw [← h1]), HG.out⟩
/-- One filter, as a row of one. -/
theorem one_tr (w : World) (t : Tr) (h : t.Ok w) (B : Nat) (hB : B = w.heap.size) : RdsT (w.alloc (.cells #[.int .i64 t.k, .int .i64 t.d, t.tv, .int .i64 t.lo, .int .i64 t.hi, t.kv] 27)) (.slice (some ⟨B, 0, none⟩) 1 1) [t] := by
  subst hB
  refine ⟨⟨some ⟨w.heap.size, 0, none⟩, 1, rfl, rfl, Nat.le_refl _, by decide, (fun h => by cases h), ?_⟩, fun c hc => ?_⟩
  · rintro ad ⟨rfl⟩ j u hj
    rw [Addr.add_lit, Nat.zero_add]
    have hjl : j < 6 := by
      have := (List.getElem?_eq_some_iff.1 hj).1
      simpa [tvs, Tr.cells] using this
    have : j = 0 ∨ j = 1 ∨ j = 2 ∨ j = 3 ∨ j = 4 ∨ j = 5 := by omega
    rcases this with rfl | rfl | rfl | rfl | rfl | rfl <;> simpa [tvs, Tr.cells] using hj
  · simp only [List.mem_singleton] at hc
    subst hc
    exact h.up ((Below.refl _ _).alloc (Nat.le_refl _) _)
theorem szL_one (t : Tr) : szL [t] = t.sz := by simp [szL]
theorem dpL_one (t : Tr) : dpL [t] = t.dp := by simp [dpL]

set_option maxHeartbeats 800000 in
theorem size_any (w : World) (t : Tr) (h : t.Ok w) :
    Calls Try.prog 12 #[.agg #[.int .i64 t.k, .int .i64 t.d, t.tv, .int .i64 t.lo, .int .i64 t.hi, t.kv]] w fun e w' => e = .returned (.int .i64 ((min 201 t.sz : Nat) : Int)) ∧ Grows w w' := by
  obtain ⟨at', nt, ct, ak, nk, ck, e1, e2, -, -, -, -⟩ := h.lens
  obtain ⟨W, hW⟩ : ∃ W, W = w.alloc (.cells #[.int .i64 t.k, .int .i64 t.d, t.tv, .int .i64 t.lo, .int .i64 t.hi, t.kv] 27) := ⟨_, rfl⟩
  have gW : Grows w W := by rw [hW]; exact Grows.alloc _ _
  have kC := count_any _ [t] (fun c hc => by simp only [List.mem_singleton] at hc; subst hc; exact Nat.lt_succ_self _) _ _ 201 (one_tr W t (h.up gW.below) (w.heap.size + 1) (by rw [hW]; simp)) (by omega)
  rw [szL_one] at kC
  obtain ⟨M, hM⟩ : ∃ M, M = min 201 t.sz := ⟨_, rfl⟩
  rw [← hM, show ((201 : Nat) : Int) = 201 from rfl] at kC
  have HG : Hid (Grows w (W.alloc (.cells #[.int .i64 t.k, .int .i64 t.d, t.tv, .int .i64 t.lo, .int .i64 t.hi, t.kv] 27))) := gW.trans (Grows.alloc _ _)
  rw [hW, e1, e2] at kC HG
  rw [e1, e2, ← hM]
  clear e1 e2 hW gW h hM
  go_enter Try.func12, Try.ntmps12
  go_wp2_with fail
  refine kC.mono ?_
  rintro e w5 ⟨rfl, g5⟩
  go_wp2_with fail
  go_ret
  exact ⟨rfl, HG.out.trans g5⟩
set_option maxHeartbeats 800000 in
theorem great_any (w : World) (t : Tr) (h : t.Ok w) :
    Calls Try.prog 27 #[.agg #[.int .i64 t.k, .int .i64 t.d, t.tv, .int .i64 t.lo, .int .i64 t.hi, t.kv]] w fun e w' => e = .returned (.bool (decide (400 < t.sz))) ∧ Grows w w' := by
  obtain ⟨at', nt, ct, ak, nk, ck, e1, e2, -, -, -, -⟩ := h.lens
  obtain ⟨W, hW⟩ : ∃ W, W = w.alloc (.cells #[.int .i64 t.k, .int .i64 t.d, t.tv, .int .i64 t.lo, .int .i64 t.hi, t.kv] 27) := ⟨_, rfl⟩
  have gW : Grows w W := by rw [hW]; exact Grows.alloc _ _
  have kC := count_any _ [t] (fun c hc => by simp only [List.mem_singleton] at hc; subst hc; exact Nat.lt_succ_self _) _ _ 401 (one_tr W t (h.up gW.below) (w.heap.size + 1) (by rw [hW]; simp)) (by omega)
  rw [szL_one] at kC
  obtain ⟨M, hM⟩ : ∃ M, M = min 401 t.sz := ⟨_, rfl⟩
  rw [← hM, show ((401 : Nat) : Int) = 401 from rfl] at kC
  have HG : Hid (Grows w (W.alloc (.cells #[.int .i64 t.k, .int .i64 t.d, t.tv, .int .i64 t.lo, .int .i64 t.hi, t.kv] 27))) := gW.trans (Grows.alloc _ _)
  rw [hW, e1, e2] at kC HG
  rw [e1, e2]
  have hgt : decide ((400 : Int) < (M : Int)) = decide (400 < t.sz) := by
    by_cases h4 : 400 < t.sz
    · rw [decide_eq_true h4, decide_eq_true (by omega)]
    · rw [decide_eq_false h4, decide_eq_false (by omega)]
  rw [← hgt]
  clear e1 e2 hW gW h hgt hM
  go_enter Try.func27, Try.ntmps27
  go_wp2_with fail
  refine kC.mono ?_
  rintro e w5 ⟨rfl, g5⟩
  go_wp2_with fail
  go_ret
  exact ⟨rfl, HG.out.trans g5⟩
theorem within_any (w : World) (a n : Int) :
    Calls Try.prog 37 #[.int .i64 a, .int .i64 n] w fun e w' => e = .returned (.bool (decide (0 ≤ a ∧ a < n))) ∧ w' = w := by
  by_cases h0 : 0 ≤ a
  · have d0 : decide ((0 : Int) ≤ a) = true := decide_eq_true h0
    by_cases h1 : a < n
    · have d1 : decide (a < n) = true := decide_eq_true h1
      rw [decide_eq_true ⟨h0, h1⟩]
      go_enter Try.func37, Try.ntmps37
      go_wp2_with fail
      go_ret
      exact ⟨rfl, rfl⟩
    · have d1 : decide (a < n) = false := decide_eq_false h1
      rw [decide_eq_false fun h => h1 h.2]
      go_enter Try.func37, Try.ntmps37
      go_wp2_with fail
      go_ret
      exact ⟨rfl, rfl⟩
  · have d0 : decide ((0 : Int) ≤ a) = false := decide_eq_false h0
    rw [decide_eq_false fun h => h0 h.1]
    go_enter Try.func37, Try.ntmps37
    go_wp2_with fail
    go_ret
    exact ⟨rfl, rfl⟩
theorem long_any (w : World) (s : Str) :
    Calls Try.prog 45 #[.string ⟨s.toArray⟩] w fun e w' => e = .returned (.bool (decide (64 < s.length))) ∧ w' = w := by
  have hz : (⟨s.toArray⟩ : ByteArray).size = s.length := str_size s
  have hd : decide ((64 : Int) < (s.length : Int)) = decide (64 < s.length) := by
    by_cases h4 : 64 < s.length
    · rw [decide_eq_true h4, decide_eq_true (by omega)]
    · rw [decide_eq_false h4, decide_eq_false (by omega)]
  rw [← hd]
  clear hd
  go_enter Try.func45, Try.ntmps45
  go_wp2_with fail
  go_ret
  exact ⟨rfl, rfl⟩
end Go.Proofs.Ytlfkhinmncbkcaa
