/- Contract: Visible. -/
import Derived.Test.YtgbmigfamefenaaCmp
namespace Go.Proofs.Ytgbmigfamefenaa
open Go.Shelf Go.RowKit Go.Maps Go.Sort
set_option linter.unusedVariables false

/-- What Visible answers. -/
structure VisP (w : World) (s : List Es) (ev : Ending) (w' : World) : Prop where
  ex : ∃ v' out vk, ev = .returned v' ∧ Say (keysF (pC 0 1099511627776 s) s) out 1099511627776 ∧ vk.Pairwise Stn ∧ (∀ k : K3, k ∈ vk ↔ ∃ u ∈ out, u.1 = k) ∧ vk.length ≤ 2000 ∧ w'.ownsRow w.heap.size 32 5 v' (segL s vk).length (sgcs (segL s vk)) ∧ Below w.heap.size w w'
set_option maxRecDepth 100000 in
set_option maxHeartbeats 12800000 in
theorem vis_any (w : World) (t : Nat) (F : Nat → Prop) (s : List Es) (h : Tl w t F s) (hs : Wf s) (hfew : s.length ≤ 1000) (hps : ∀ e ∈ s, e.2.2.length ≤ 400) :
    Calls Try.prog 22 #[.pointer (some ⟨t, 0, none⟩)] w (VisP w s) := by
  have mixed : Try.prog.follows .mixedOrders = true := by kernel_rfl
  obtain ⟨i0, hi0, hi1, hi2, hi3⟩ := info_parts Try.info_key
  have HT := hide h
  have HS := hide hs
  have HPS := hide hps
  have HFW := hide hfew
  clear h hs hps hfew
  go_enter Try.func22, Try.ntmps22
  go_wp2_with fail
  refine (always_any w).mono ?_
  rintro ev w1 ⟨rfl, g1⟩
  have HB1 := hide g1.below
  have kC := complete_any w1 t F s 0 1099511627776 (HT.out.below HB1.out) (Nat.le_trans HFW.out (by decide)) (fun e he => (HS.out.ok e he).co)
  clear g1
  go_wp2_with fail
  refine kC.mono ?_
  rintro ev w2 ⟨v2, rfl, r2, b2⟩
  have HB2 := hide (HB1.out.trans (b2.mono HB1.out.size))
  obtain ⟨ks, hks⟩ : ∃ ks, ks = keysF (pC 0 1099511627776 s) s := ⟨_, rfl⟩
  have hkl : ks.length ≤ 1000 := by rw [hks]; exact Nat.le_trans (keysF_len _ _) HFW.out
  have hcm : Cmg ks 1099511627776 := by rw [hks]; exact cmg_of HT.out.nodup HS.out.ok _
  rw [← hks] at r2
  have kS := stretches_any w2 v2 ks 1099511627776 r2 hcm (Nat.le_trans hkl (by decide))
  have HKS := hide hks
  clear hks r2 b2 kC hcm
  go_wp2_with fail
  refine kS.mono ?_
  rintro ev w3 ⟨v3, rfl, out, o3, say3, hol3, b3⟩
  have HB3 := hide (HB2.out.trans (b3.mono HB2.out.size))
  have HSay := hide say3
  have hol : out.length ≤ 2000 := by omega
  obtain ⟨va, vc, hv3, hvc1, hvc2, hvc⟩ := o3.at5
  have HAT : Hid (∀ i (hi : i < out.length), ∃ b, va = some ⟨b, 0, none⟩ ∧ At5 w3 b (i * 5) out[i]) := by
    intro i hi
    rcases hvc with ⟨q1, q2⟩ | ⟨b, q, hcs⟩
    · omega
    · exact ⟨b, q, hcs i hi⟩
  have HOL := hide hol
  have HOB : Hid (∀ t ∈ out, B3 t.1) := by
    intro t ht
    have hlt := say3.ne t ht
    have hm := (say3.is t ht t.2.1 (Int.le_refl _) hlt).mem
    rw [HKS.out] at hm
    obtain ⟨e, he, _, q⟩ := (mem_keysF _ _ _).1 hm
    rw [← q]
    exact (HS.out.ok e he).b3
  obtain ⟨n, hn⟩ : ∃ n, n = out.length := ⟨_, rfl⟩
  rw [← hn] at hv3 hvc1
  have hn2 : n ≤ 2000 := by omega
  have HN := hide hn
  unfold maxLen at hvc2
  clear kS o3 say3 hol3 b3 hvc hkl hol hn
  subst hv3
  go_wp2_with fail
  go_loopg [3, 5, 13] n (fun kx v3 _ v13 wr => ∃ (i : Nat) (acc : List K3) (x3 : Value), x3 = v3 ∧ v13 = .int .i64 (i : Int) ∧ i ≤ n ∧ n - i ≤ kx ∧ acc.length = i ∧ Hid (acc = (out.take i).map Prod.fst) ∧ Hid (wr.ownsRow w3.heap.size 55 3 x3 acc.length (kcs acc)) ∧ Hid (Below w3.heap.size w3 wr))
  case atStart => exact ⟨0, [], _, rfl, rfl, Nat.zero_le _, Nat.le_refl _, rfl, rfl, ⟨rfl, .inl ⟨rfl, rfl⟩⟩, Below.refl _ _⟩
  case round =>
    obtain ⟨i, acc, x3, rfl, rfl, hi, hkx, hal, HA, HO, HB⟩ := hrel
    by_cases hlt : i < n
    · have hltz : (i : Int) < (n : Int) := by omega
      have hil : i < out.length := by have := HN.out; omega
      obtain ⟨vb, rfl, hat5⟩ := HAT.out i hil
      have hat6 := hat5.below HB.out
      have htk : (out.take (i + 1)).map Prod.fst = (out.take i).map Prod.fst ++ [out[i].1] := by
        rw [List.take_succ_eq_append_getElem hil, List.map_append]
        rfl
      obtain ⟨⟨⟨p1, p2, p3⟩, s1, s2⟩, hso⟩ : ∃ s, s = out[i] := ⟨_, rfl⟩
      rw [← hso] at hat6 htk
      have HTK := hide htk
      have d0 := hat6.c0
      have d1 := hat6.c1
      have d2 := hat6.c2
      have d3 := hat6.c3
      have d4 := hat6.c4
      simp only at d0 d1 d2 d3 d4
      obtain ⟨w5, hw5⟩ : ∃ w5, w5 = wr.alloc (.cells #[.int .i64 p1, .int .i64 p2, .int .i64 p3, .int .i64 s1, .int .i64 s2] 57) := ⟨_, rfl⟩
      obtain ⟨w4, hw4⟩ : ∃ w4, w4 = w5.alloc (.cells #[.int .i64 p1, .int .i64 p2, .int .i64 p3] 55) := ⟨_, rfl⟩
      have hs5 : w5.heap.size = wr.heap.size + 1 := by rw [hw5]; simp
      have HLO : Hid (RdsK 3 w4 (.slice (some ⟨wr.heap.size + 1, 0, none⟩) 1 1) 1 [.int .i64 p1, .int .i64 p2, .int .i64 p3]) := by
        apply hide
        rw [hw4, ← hs5]
        exact RdsK.of_own (lit_ownK w5 [.int .i64 p1, .int .i64 p2, .int .i64 p3] 55 1 3 rfl (by simp [maxLen]))
      have HAO : Hid (w4.ownsRow w3.heap.size 55 3 x3 acc.length (kcs acc)) := by apply hide; rw [hw4, hw5]; exact World.ownsRow.alloc (World.ownsRow.alloc HO.out _) _
      have HW4 : Hid (w4 = (wr.alloc (.cells #[.int .i64 p1, .int .i64 p2, .int .i64 p3, .int .i64 s1, .int .i64 s2] 57)).alloc (.cells #[.int .i64 p1, .int .i64 p2, .int .i64 p3] 55)) := by apply hide; rw [hw4, hw5]
      have hsz4 : w3.heap.size ≤ w4.heap.size := by
        have h1 := HB.out.size
        rw [hw4, hw5]
        simp
        omega
      have HW1 : Hid (wrap64 ((i : Int) + 1) = (i : Int) + 1) := by apply hide; rw [← IntWalk.i64_left, IntKind.wrap_i64]; omega
      clear hat5 hat6 htk hso hil hw4 hw5 hs5
      go_wp2_with (first | (at_builtin; rw [← HW4.out]; refine wpList_appF rfl _ _ 52 rfl w3.heap.size 55 i0 (.agg #[.int .i64 0, .int .i64 0, .int .i64 0]) 3 24 Try.underlying52 hi0 hi1 hi2 hi3 rfl (by decide) x3 acc.length (kcs acc) rfl HAO.out (.slice (some ⟨wr.heap.size + 1, 0, none⟩) 1 1) 1 [.int .i64 p1, .int .i64 p2, .int .i64 p3] rfl HLO.out (fun u hu => by simp at hu; rcases hu with rfl | rfl | rfl <;> rfl) (by unfold maxLen; omega) (by omega) hsz4 ?_; intro v6 w6 o6 g6 hx6; have H6 : Hid (w6.ownsRow w3.heap.size 55 3 v6 (acc.length + 1) (kcs acc ++ [.int .i64 p1, .int .i64 p2, .int .i64 p3]) ∧ w4.grownBy w6 x3.ownBlock) := ⟨o6, g6⟩; clear o6 g6 hx6))
      obtain ⟨o6, g6⟩ := H6.out
      have gA : wr.grownBy w6 x3.ownBlock := grown_trans (by rw [HW4.out]; exact grown_trans (grown_alloc _ _ _) (grown_alloc _ _ _)) g6
      go_roundg (n - (i + 1))
      case measure => exact Nat.lt_of_lt_of_le (Nat.sub_lt_sub_left hlt (Nat.lt_succ_self i)) hkx
      case rel =>
        refine ⟨i + 1, acc ++ [(p1, p2, p3)], v6, rfl, by first | (rw [HW1.out]; rfl) | rfl, hlt, Nat.le_refl _, by simp; omega, ?_, ?_, ?_⟩
        · apply hide
          rw [HTK.out, HA.out]
        · apply hide
          rw [kcs_append, List.length_append]
          exact o6
        · exact Below.gr HB.out HB.out.size gA fun r hr => (own_lt HO.out r hr).1
    · have hltz : ¬ (i : Int) < (n : Int) := by omega
      have kO := sort_own wr w3.heap.size x3 acc HO.out HB.out.size (by omega)
      go_wp2_with fail
      refine kO.mono ?_
      rintro ev w7 ⟨rfl, l', hperm, hrise, ho7, hb7⟩
      have HB7 : Hid (Below w3.heap.size w3 w7) := HB.out.trans hb7
      have hll : l'.length = i := by rw [hperm.length_eq]; exact hal
      have kP := compK_any w7 w3.heap.size x3 l' ho7 HB7.out.size hrise (by omega)
      have HPM := hide hperm
      have HLL := hide hll
      clear kO hperm hrise ho7 hb7 hll
      go_wp2_with fail
      refine kP.mono ?_
      rintro ev w8 ⟨v8, l8, rfl, hr8, hm8, hl8, hd8, hb8⟩
      have HB8 : Hid (Below w.heap.size w w8) := HB3.out.trans ((HB7.out.trans hb8).mono HB3.out.size)
      have hmem : ∀ k, k ∈ l8 ↔ ∃ u ∈ out, u.1 = k := by
        intro k
        rw [hm8, HPM.out.mem_iff, HA.out, List.take_of_length_le (by have := HN.out; omega), List.mem_map]
      have kG := segments_any w8 t F s v8 l8 (HT.out.below HB8.out) hd8 (fun k hk => by obtain ⟨u, hu, q⟩ := (hmem k).1 hk; rw [← q]; exact HOB.out u hu) (by
        have h1 := segL_len HPS.out l8
        have h2 := HLL.out
        have h3 : l8.length * 400 ≤ 2000 * 400 := Nat.mul_le_mul_right 400 (by omega)
        omega)
      obtain ⟨sg, hsg⟩ : ∃ sg, sg = segL s l8 := ⟨_, rfl⟩
      rw [← hsg] at kG
      have HSG := hide hsg
      have HMEM := hide hmem
      have HR8 := hide hr8
      have HL8 : Hid (l8.length ≤ 2000) := by apply hide; have := HLL.out; omega
      clear kP hr8 hm8 hl8 hd8 hb8 hmem hsg
      go_wp2_with fail
      refine kG.mono ?_
      rintro ev w9 ⟨v9, rfl, o9, b9⟩
      have H9 := hide (And.intro (owns_mono o9 HB8.out.size) (HB8.out.trans (b9.mono HB8.out.size)))
      clear kG o9 b9
      go_wp2_with fail
      go_ret
      refine ⟨_, out, l8, rfl, ?_, HR8.out, HMEM.out, HL8.out, ?_, H9.out.2⟩
      · rw [← HKS.out]; exact HSay.out
      · rw [← HSG.out]; exact H9.out.1
end Go.Proofs.Ytgbmigfamefenaa
