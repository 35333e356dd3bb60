/- The contract of count, by induction over the trees. -/
import Derived.Test.YtlfkhinmncbkcaaKids
namespace Go.Proofs.Ytlfkhinmncbkcaa
open Go.RowKit Go.Sort

set_option maxHeartbeats 4000000 in
theorem count_any : ∀ (N : Nat) (l : List Tr), (∀ t ∈ l, SizeOf.sizeOf t < N) → ∀ (w : World) (v : Value) (L : Nat), RdsT w v l → L ≤ 1000 →
    Calls Try.prog 26 #[.int .i64 L, v] w fun e w' => e = .returned (.int .i64 ((min L (szL l) : Nat) : Int)) ∧ Grows w w' := by
  intro N
  induction N with
  | zero =>
    intro l hl w v L h hL
    have : l = [] := by
      cases l with
      | nil => rfl
      | cons t l => have := hl t (by simp); omega
    subst this
    obtain ⟨ao, n, cap, rfl⟩ := h.sl
    obtain ⟨hn, -, -⟩ := h.len
    simp only [List.length_nil] at hn
    subst hn
    go_enter Try.func26, Try.ntmps26
    go_wp2_with fail
    go_loopg [5, 10] 0 (fun kx v5 v10 wr => v5 = .int .i64 0 ∧ v10 = .int .i64 0 ∧ Hid (Grows w wr))
    case atStart => exact ⟨rfl, rfl, Grows.refl _⟩
    case round =>
      obtain ⟨rfl, rfl, HG⟩ := hrel
      go_wp2_with fail
      go_ret
      refine ⟨ret_int ?_, HG.out⟩
      simp [szL]
  | succ N ih =>
    intro l hl w v L h hL
    obtain ⟨ao, n, cap, rfl⟩ := h.sl
    obtain ⟨hn, hc1, hc2⟩ := h.len
    unfold maxLen at hc2
    have HN : Hid (n = l.length) := hn
    have HH : Hid (RdsT w (.slice ao n cap) l) := h
    have HI : Aside _ := ih
    have HL : Aside (∀ t ∈ l, SizeOf.sizeOf t < N + 1) := hl
    clear h hn ih hl
    go_enter Try.func26, Try.ntmps26
    go_wp2_with fail
    go_loopg [5, 10] n (fun kx v5 v10 wr => ∃ i c : Nat, v10 = .int .i64 i ∧ v5 = .int .i64 c ∧ i ≤ n ∧ n - i ≤ kx ∧ c ≤ L ∧ Hid (c = min L (szL (l.take i))) ∧ Hid (Grows w wr))
    case atStart => exact ⟨0, 0, rfl, rfl, by omega, Nat.le_refl _, by omega, (show (0 : Nat) = min L (szL (l.take 0)) by simp [szL]), Grows.refl _⟩
    case round =>
      obtain ⟨i, c, rfl, rfl, hi, hkx, hcL, HC, HG⟩ := hrel
      by_cases hlt : i < n
      · have hltz : (i : Int) < (n : Int) := by omega
        have hil : i < l.length := by have := HN.out; omega
        have hr := RdsT.below HH.out HG.out.below
        obtain ⟨b, off, rfl, hcell⟩ := hr.at (by omega)
        obtain ⟨q0, q1, q2, q3, q4, q5⟩ := hcell i hil
        have ok := hr.ok l[i] (List.getElem_mem hil)
        have hsz := HL.out l[i] (List.getElem_mem hil)
        have htk := szL_take l i hil
        generalize l[i] = x at *
        have HT : Hid _ := htk
        have HX : Hid (x.Ok wr ∧ SizeOf.sizeOf x < N + 1) := ⟨ok, hsz⟩
        obtain ⟨at', nt, ct, ak, nk, ck, e1, e2, -, -, -, -⟩ := ok.lens
        rw [e1] at q2
        rw [e2] at q5
        have HE : Hid (x.tv = .slice at' nt ct ∧ x.kv = .slice ak nk ck) := ⟨e1, e2⟩
        obtain ⟨W, hW⟩ : ∃ W, W = wr.alloc (.cells #[.int .i64 x.k, .int .i64 x.d, x.tv, .int .i64 x.lo, .int .i64 x.hi, x.kv] 27) := ⟨_, rfl⟩
        have gW : Grows wr W := by rw [hW]; exact Grows.alloc _ _
        have kK := kids_any W x (ok.up gW.below)
        rw [hW, e1, e2] at kK
        have HW : Hid _ := hW
        rw [e1, e2] at HW
        have HGW : Hid (Grows wr W) := gW
        clear ok hsz htk hcell hr e1 e2 hW gW
        by_cases hcl : L ≤ c
        · have hclz : (L : Int) ≤ (c : Int) := by omega
          clear kK
          go_wp2_with fail
          rw [← HW.out]
          go_ret
          refine ⟨?_, HG.out.trans HGW.out⟩
          have h1 := HC.out
          have h2 : szL (l.take i) ≤ szL l := by
            conv => rhs; rw [← List.take_append_drop i l]
            unfold szL; rw [List.map_append, List.sum_append]; omega
          have h3 : c = min L (szL l) := by omega
          exact ret_int (by rw [← h3])
        · have hclz : ¬ (L : Int) ≤ (c : Int) := by omega
          have hsub : (L : Int) - ((c : Int) + 1) = ((L - (c + 1) : Nat) : Int) := by omega
          obtain ⟨M, hM⟩ : ∃ M, M = L - (c + 1) := ⟨_, rfl⟩
          rw [← hM] at hsub
          have hM1 : M ≤ 1000 := by omega
          have HMM : Hid (M = L - (c + 1)) := hM
          clear hM
          go_wp2_with fail
          refine kK.mono ?_
          rintro e w5 ⟨rfl, g5⟩
          rw [← HW.out] at g5
          have hk5 := (HX.out.1.up (HGW.out.trans g5).below).kids
          have kC := HI.out x.kids (fun t ht => by have := kids_lt ht; have := HX.out.2; omega) w5 x.kidv M hk5 hM1
          obtain ⟨a5, n5, c5, e5⟩ := hk5.sl
          rw [e5] at kC ⊢
          obtain ⟨S, hS⟩ : ∃ S, S = min M (szL x.kids) := ⟨_, rfl⟩
          rw [← hS] at kC
          have hSM : S ≤ M := by omega
          have HS : Hid (S = min M (szL x.kids)) := hS
          have HG5 : Hid (Grows wr w5) := HGW.out.trans g5
          clear kK g5 hk5 e5 hS
          go_wp2_with fail
          refine kC.mono ?_
          rintro e w6 ⟨rfl, g6⟩
          obtain ⟨K, hK⟩ : ∃ K : Nat, K = c + 1 + S := ⟨_, rfl⟩
          have hcs : (c : Int) + 1 + (S : Int) = (K : Int) := by omega
          have hKL : K ≤ 1000 := by have := HMM.out; omega
          have HK : Hid (K = c + 1 + S) := hK
          clear hK
          clear kC
          go_wp2_with fail
          go_roundg (n - (i + 1))
          case measure => omega
          case rel =>
            have hm := HMM.out
            have hk := HK.out
            refine ⟨i + 1, K, by go_num, rfl, by omega, Nat.le_refl _, by omega, ?_, (HG.out.trans HG5.out).trans g6⟩
            show _ = _
            have h1 := HC.out
            have h2 := HS.out
            have h3 := HT.out
            rw [x.sz_eq] at h3
            rw [h3]
            omega
      · have hltz : ¬ (i : Int) < (n : Int) := by omega
        go_wp2_with fail
        go_ret
        have h1 := HC.out
        rw [List.take_of_length_le (by have := HN.out; omega)] at h1
        exact ⟨ret_int (by rw [← h1]), HG.out⟩
end Go.Proofs.Ytlfkhinmncbkcaa
